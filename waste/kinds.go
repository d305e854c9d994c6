package waste

import (
	"slices"

	"skimmer/api"
)

// kinds are valid kinds: how many, and the pairs that clash, the lesser kind first. The methods rely on that.
type kinds struct {
	n     int
	pairs map[[2]int]bool
}

// clash reports whether two kinds clash, whichever is the lesser one.
func (k kinds) clash(a, b int) bool {
	return k.pairs[[2]int{min(a, b), max(a, b)}]
}

// fits reports whether a kind clashes with none of a list.
func (k kinds) fits(kind int, list []int) bool {
	return !slices.ContainsFunc(list, func(other int) bool { return k.clash(kind, other) })
}

// isRight reports whether a list with a skip for each kind is a right filling.
func (k kinds) isRight(fill []int) bool {
	for pair := range k.pairs {
		if fill[pair[0]] == fill[pair[1]] {
			return false
		}
	}
	return true
}

// isOrder reports whether a list has each kind once.
func (k kinds) isOrder(order []int) bool {
	// The length comes first: a list that is no order may be of any length, and sorting copies it.
	if len(order) != k.n {
		return false
	}
	for i, kind := range slices.Sorted(slices.Values(order)) {
		if kind != i {
			return false
		}
	}
	return true
}

// given returns the kinds as they are given, with their pairs in ascending order.
func (k kinds) given() api.Kinds {
	given := api.Kinds{N: k.n}
	for a := range k.n {
		for b := a + 1; b < k.n; b++ {
			if k.clash(a, b) {
				given.Clash = append(given.Clash, [2]int{a, b})
			}
		}
	}
	return given
}

// other returns the kinds of which just those clash that do not.
func (k kinds) other() kinds {
	other := kinds{k.n, map[[2]int]bool{}}
	for b := range k.n {
		for a := range b {
			if !k.clash(a, b) {
				other.pairs[[2]int{a, b}] = true
			}
		}
	}
	return other
}

// joined returns the kinds in which the two of a pair are one.
func (k kinds) joined(pair [2]int) kinds {
	number := func(kind int) int {
		switch {
		case kind == pair[1]:
			return pair[0]
		case kind > pair[1]:
			return kind - 1
		}
		return kind
	}
	joined := kinds{k.n - 1, map[[2]int]bool{}}
	for other := range k.pairs {
		// The greater kind may get the lesser number.
		a, b := number(other[0]), number(other[1])
		if a != b {
			joined.pairs[[2]int{min(a, b), max(a, b)}] = true
		}
	}
	return joined
}

// apart returns the longest list of kinds apart, and of several the one that comes first: lists are looked at in their order, and only a longer one replaces the one found.
func (k kinds) apart() []int {
	var longest, list []int
	var extend func(from int)
	extend = func(from int) {
		if len(list) > len(longest) {
			longest = slices.Clone(list)
		}
		for kind := from; kind < k.n; kind++ {
			if k.fits(kind, list) {
				list = append(list, kind)
				extend(kind + 1)
				list = list[:len(list)-1]
			}
		}
	}
	extend(0)
	return longest
}

// parts returns for each kind the number of its part.
func (k kinds) parts() []int {
	const none = -1
	parts := slices.Repeat([]int{none}, k.n)
	var spread func(kind, part int)
	spread = func(kind, part int) {
		parts[kind] = part
		for other := range k.n {
			if parts[other] == none && k.clash(kind, other) {
				spread(other, part)
			}
		}
	}
	part := 0
	for kind := range k.n {
		if parts[kind] == none {
			spread(kind, part)
			part++
		}
	}
	return parts
}
