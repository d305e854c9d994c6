package print_test

import (
	"math/rand/v2"
	"slices"
	"testing"

	"skimmer/api"
	"skimmer/print"
)

// distance returns the distance of two prints.
func distance(t *testing.T, s, to string, c api.Costs) int {
	t.Helper()
	return must[int](t, "Distance")(print.Distance(s, to, c))
}

// P9.8: 0 for equal prints alone, the same both ways round, and at the bounds that the lengths give.
func TestDistancesFollow(t *testing.T) {
	for _, c := range allCosts() {
		for _, p := range all() {
			n := distance(t, p[0], p[1], c)
			check(t, "a distance of 0", n == 0, api.OK, p[0] == p[1], api.OK)
			check(t, "the distance the other way round", distance(t, p[1], p[0], c), api.OK, n, api.OK)
			check(t, "the distance to itself", distance(t, p[0], p[0], c), api.OK, 0, api.OK)
			least := c.Put * max(len(p[0])-len(p[1]), len(p[1])-len(p[0]))
			if most := c.Put * (len(p[0]) + len(p[1])); n < least || n > most {
				t.Errorf("the distance of %q and %q: %d, not from %d to %d", p[0], p[1], n, least, most)
			}
		}
	}
}

// P9.8: a print on the way makes the way no shorter.
func TestTriangles(t *testing.T) {
	l := slices.Concat(words(2, 3), drawn(8, 10, 6), drawn(9, 8, api.MaxPrint), long()[:6])
	for _, c := range allCosts()[:8] {
		far := map[[2]string]int{}
		for _, s := range l {
			for _, to := range l {
				far[[2]string{s, to}] = distance(t, s, to, c)
			}
		}
		for _, s := range l {
			for _, by := range l {
				for _, to := range l {
					if far[[2]string{s, to}] > far[[2]string{s, by}]+far[[2]string{by, to}] {
						t.Errorf("%q to %q by %q is shorter, costs %v", s, to, by, c)
					}
				}
			}
		}
	}
}

// anyEdits returns edits, whatever they cost.
func anyEdits(source *rand.Rand, s, t string) []int {
	var l []int
	for i, k := 0, 0; i < len(s) || k < len(t); {
		switch way := source.IntN(3); {
		case way == 0 && i < len(s):
			l = append(l, api.EditLeave)
			i++
		case way == 1 && k < len(t):
			l = append(l, api.EditPut)
			k++
		case way == 2 && i < len(s) && k < len(t):
			edit := api.EditChange
			if s[i] == t[k] {
				edit = api.EditKeep
			}
			l = append(l, edit)
			i++
			k++
		}
	}
	return l
}

// P9.9: what is true of Edits, and of any edits.
func TestProofs(t *testing.T) {
	source := rand.New(rand.NewPCG(9, 9))
	for _, c := range allCosts() {
		for _, p := range all() {
			n := distance(t, p[0], p[1], c)
			cheapest := must[[]int](t, "Edits")(print.Edits(p[0], p[1], c))
			for _, l := range [][]int{cheapest, anyEdits(source, p[0], p[1])} {
				are, err := print.AreEdits(p[0], p[1], l)
				check(t, "AreEdits", are, err, true, api.OK)
				cost := must[int](t, "CostOf")(print.CostOf(p[0], p[1], l, c))
				check(t, "edits that cost less than the distance", cost < n, api.OK, false, api.OK)
				undoing := must[[]int](t, "Back")(print.Back(p[0], p[1], l))
				again, err := print.Back(p[1], p[0], undoing)
				checkList(t, "Back of Back", again, err, l, api.OK)
				same, err := print.CostOf(p[1], p[0], undoing, c)
				check(t, "CostOf Back", same, err, cost, api.OK)
			}
			cost, err := print.CostOf(p[0], p[1], cheapest, c)
			check(t, "CostOf Edits", cost, err, n, api.OK)
			far := must[[][]int](t, "Far")(print.Far(p[0], p[1], c))
			is, err := print.Proves(p[0], p[1], far, c, n)
			check(t, "Proves the distance", is, err, true, api.OK)
			is, err = print.Proves(p[0], p[1], far, c, n+1)
			check(t, "Proves more", is, err, false, api.OK)
		}
	}
}

// P9.10.
func TestCommonFollows(t *testing.T) {
	for _, p := range all() {
		row := must[string](t, "Common")(print.Common(p[0], p[1]))
		is, err := print.IsCommon(p[0], p[1], row)
		check(t, "IsCommon of Common", is, err, true, api.OK)
		for _, c := range allCosts() {
			if c.Change >= 2*c.Put {
				check(t, "the distance by Common", distance(t, p[0], p[1], c), api.OK, c.Put*(len(p[0])+len(p[1])-2*len(row)), api.OK)
			}
		}
	}
	for _, p := range short() {
		row := must[string](t, "Common")(print.Common(p[0], p[1]))
		for _, other := range plainRows(p[0]) {
			is := must[bool](t, "IsCommon")(print.IsCommon(p[0], p[1], other))
			check(t, "a longer common row", is && len(other) > len(row), api.OK, false, api.OK)
		}
	}
}

// P9.11: the other way round, and with the same peak more.
func TestOtherDistances(t *testing.T) {
	for _, c := range allCosts() {
		for _, p := range all() {
			n := distance(t, p[0], p[1], c)
			check(t, "the distance of prints backwards", distance(t, backwards(p[0]), backwards(p[1]), c), api.OK, n, api.OK)
			if len(p[0]) == api.MaxPrint || len(p[1]) == api.MaxPrint {
				continue
			}
			for _, peak := range []string{"a", "b", "h"} {
				check(t, "a greater distance with one peak more", distance(t, p[0]+peak, p[1]+peak, c) > n, api.OK, false, api.OK)
			}
		}
	}
}

// P9.11: the nearest print, and what is within its distance.
func TestNearestWithin(t *testing.T) {
	for _, l := range lists() {
		for _, c := range allCosts() {
			for _, s := range slices.Concat([]string{"", l[0], "hgh"}, drawn(10, 3, 12)) {
				at, n, err := print.Nearest(l, s, c)
				check(t, "Nearest", err, api.OK, api.OK, api.OK)
				within := must[[]int](t, "Within")(print.Within(l, s, c, n))
				check(t, "the first one within", len(within) > 0 && within[0] == at, api.OK, true, api.OK)
				if n > 0 {
					none, err := print.Within(l, s, c, n-1)
					checkList(t, "Within less", none, err, nil, api.OK)
				}
			}
		}
	}
}

// P9.12: all peaks different give the most rows, all equal the fewest.
func TestRowsFollow(t *testing.T) {
	for _, s := range slices.Concat(words(3, 4), long(), drawn(11, 300, api.MaxPrint)) {
		n := must[int](t, "Rows")(print.Rows(s))
		different := map[byte]bool{}
		for i := range len(s) {
			different[s[i]] = true
		}
		check(t, "more rows than 2 to the power of the length", n > 1<<len(s), api.OK, false, api.OK)
		check(t, "as many rows as all different peaks have", n == 1<<len(s), api.OK, len(different) == len(s), api.OK)
		check(t, "1 row more than peaks", n == len(s)+1, api.OK, len(different) <= 1, api.OK)
	}
}
