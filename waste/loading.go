package waste

import "slices"

// loaded returns the pairs with the kind first that is loaded before the other one.
func loaded(pairs [][2]int, before []bool) [][2]int {
	turned := slices.Clone(pairs)
	for i, first := range before {
		if !first {
			turned[i] = [2]int{pairs[i][1], pairs[i][0]}
		}
	}
	return turned
}

// hasRing reports whether pairs, each of one kind before another one, put a kind before itself. Pairs whose first kind has none before it are in no ring: they are left out until there are no more of them.
func hasRing(pairs [][2]int) bool {
	for len(pairs) > 0 {
		rest := slices.DeleteFunc(slices.Clone(pairs), func(pair [2]int) bool {
			return !slices.ContainsFunc(pairs, func(other [2]int) bool { return other[1] == pair[0] })
		})
		if len(rest) == len(pairs) {
			return true
		}
		pairs = rest
	}
	return false
}
