package waste

// groupings gives each way to part the kinds into groups of which none has kinds that clash. Groups are in the order of their least kinds, so that the numbers of the kinds' groups are a filling; these fillings ascend. The groups are to be read at once: they change with the next grouping.
func (k kinds) groupings(yield func(groups [][]int) bool) {
	groups := make([][]int, 0, k.n)
	var put func(kind int) bool
	put = func(kind int) bool {
		if kind == k.n {
			return yield(groups)
		}
		for i, group := range groups {
			if !k.fits(kind, group) {
				continue
			}
			groups[i] = append(group, kind)
			more := put(kind + 1)
			groups[i] = group
			if !more {
				return false
			}
		}
		groups = append(groups, []int{kind})
		more := put(kind + 1)
		groups = groups[:len(groups)-1]
		return more
	}
	put(0)
}

// filling returns for each kind the number of its group.
func (k kinds) filling(groups [][]int) []int {
	fill := make([]int, k.n)
	for skip, group := range groups {
		for _, kind := range group {
			fill[kind] = skip
		}
	}
	return fill
}

// fewest returns the least number of groups.
func (k kinds) fewest() int {
	fewest := k.n
	for groups := range k.groupings {
		fewest = min(fewest, len(groups))
	}
	return fewest
}

// first returns the first right filling with so many skips, if there is one. It opens no skip before those with lesser numbers, as exchanging two skips would give one that comes before it: so it is that of a grouping.
func (k kinds) first(skips int) ([]int, bool) {
	for groups := range k.groupings {
		if len(groups) <= skips {
			return k.filling(groups), true
		}
	}
	return nil, false
}

// line puts the kinds in an order, each into the first group that it fits.
func (k kinds) line(order []int) []int {
	var groups [][]int
	for _, kind := range order {
		i := 0
		for i < len(groups) && !k.fits(kind, groups[i]) {
			i++
		}
		if i == len(groups) {
			groups = append(groups, nil)
		}
		groups[i] = append(groups[i], kind)
	}
	return k.filling(groups)
}

// polynomial adds up the groupings: one with g groups is filled with k skips in k (k - 1) .. (k - g + 1) ways, the skips of its groups being chosen one after the other.
func (k kinds) polynomial() []int {
	numbers := make([]int, k.n+1)
	for groups := range k.groupings {
		numbers[len(groups)]++
	}
	sum := make([]int, k.n+1)
	chosen := []int{1}
	for g, number := range numbers {
		for i, n := range chosen {
			sum[i] += number * n
		}
		chosen = timesLess(chosen, g)
	}
	return sum
}

// timesLess returns a polynomial times (k - n).
func timesLess(poly []int, n int) []int {
	product := make([]int, len(poly)+1)
	for i, number := range poly {
		product[i] -= number * n
		product[i+1] += number
	}
	return product
}

// value returns the value of a polynomial at k.
func value(poly []int, k int) int {
	sum := 0
	for i := len(poly) - 1; i >= 0; i-- {
		sum = sum*k + poly[i]
	}
	return sum
}
