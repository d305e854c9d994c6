package fund_test

import (
	"slices"
	"testing"

	"skimmer/api"
	"skimmer/fund"
)

// P8.5.
func TestLeast(t *testing.T) {
	for _, c := range all() {
		for _, estate := range estates(c) {
			for rule := inProportion; rule <= oldRule; rule++ {
				n, err := fund.Least(c, estate, rule)
				check(t, "Least", n, err, plainLeast(plainAwards(c, estate, rule)), api.OK)
			}
		}
	}
	for _, x := range []struct {
		c                  []int
		estate, rule, want int
	}{
		{three(), 100, oldRule, 0}, {[]int{300, 200, 200}, 100, equalLosses, 1}, {[]int{4, 0, 0}, 4, oldRule, 1}, {[]int{5, 3, 5}, 4, equalAwards, 0}, {[]int{5, 3, 5}, 10, equalAwards, 1}, {[]int{5, 5, 3}, 12, inProportion, 2}, {[]int{5, 3, 3}, 1, inProportion, 1},
		{[]int{9}, 3, oldRule, 0}, {[]int{0, 0, 0}, 0, inProportion, 0}, {[]int{3, 2, 1}, 0, inProportion, 0}, {[]int{3, 2, 1}, 6, equalAwards, 2}, {[]int{10, 9, 8, 7, 6, 5, 4, 3}, 1, equalLosses, 1}, {[]int{10, 9, 8, 7, 6, 5, 4, 3}, 52, equalLosses, 7},
	} {
		n, err := fund.Least(x.c, x.estate, x.rule)
		check(t, "Least", n, err, x.want, api.OK)
	}
}

// P8.5: what is left is given one by one.
func TestWhole(t *testing.T) {
	for _, c := range all() {
		for _, estate := range estates(c) {
			for rule := inProportion; rule <= oldRule; rule++ {
				l, err := fund.Whole(c, estate, rule)
				checkList(t, "Whole", l, err, plainWhole(plainAwards(c, estate, rule), estate), api.OK)
			}
		}
	}
	for _, x := range []struct {
		c            []int
		estate, rule int
		want         []int
	}{
		{three(), 100, oldRule, []int{34, 33, 33}}, {three(), 200, oldRule, []int{50, 75, 75}}, {three(), 500, oldRule, []int{67, 167, 266}}, {three(), 100, inProportion, []int{17, 33, 50}}, {[]int{300, 200, 100}, 100, inProportion, []int{50, 33, 17}},
		{[]int{5, 3, 5}, 4, equalAwards, []int{2, 1, 1}}, {[]int{5, 3, 5}, 5, equalAwards, []int{2, 2, 1}}, {[]int{5, 3, 5}, 6, equalAwards, []int{2, 2, 2}}, {[]int{300, 200, 200}, 100, equalLosses, []int{100, 0, 0}}, {[]int{1, 5, 5, 5}, 9, equalLosses, []int{0, 3, 3, 3}}, {[]int{1, 5, 5, 5}, 10, equalLosses, []int{0, 4, 3, 3}},
		{[]int{1, 1, 1, 1, 1, 1, 1, 1}, 5, inProportion, []int{1, 1, 1, 1, 1, 0, 0, 0}}, {[]int{1, 1, 1, 1, 1, 1, 1, 1}, 0, inProportion, []int{0, 0, 0, 0, 0, 0, 0, 0}}, {[]int{1, 1, 1, 1, 1, 1, 1, 1}, 8, oldRule, []int{1, 1, 1, 1, 1, 1, 1, 1}},
		// The greatest rest is that of the least claim, which comes last.
		{[]int{5, 5, 3}, 8, inProportion, []int{3, 3, 2}}, {[]int{9}, 4, oldRule, []int{4}}, {[]int{0, 0}, 0, equalLosses, []int{0, 0}},
	} {
		l, err := fund.Whole(x.c, x.estate, x.rule)
		checkList(t, "Whole", l, err, x.want, api.OK)
	}
}

// P8.6.
func TestMore(t *testing.T) {
	for _, c := range all() {
		for _, estate := range estates(c) {
			for rule := inProportion; rule <= oldRule; rule++ {
				for claimant := range c {
					r, err := fund.More(c, estate, rule, claimant)
					if c[claimant] == 1000 {
						check(t, "More", r, err, api.Ratio{}, api.ErrNone)
						continue
					}
					check(t, "More", r, err, plainMore(c, estate, rule, claimant), api.OK)
				}
			}
		}
	}
	for _, x := range []struct {
		c                      []int
		estate, rule, claimant int
		want                   api.Ratio
	}{
		{three(), 200, inProportion, 0, api.Ratio{N: 500, D: 1803}}, {three(), 200, equalAwards, 0, whole(0)}, {three(), 450, equalAwards, 0, whole(1)}, {three(), 450, equalAwards, 1, whole(0)}, {three(), 500, equalAwards, 1, whole(0)}, {three(), 501, equalAwards, 1, api.Ratio{N: 1, D: 2}},
		{three(), 300, equalLosses, 0, api.Ratio{N: 2, D: 3}}, {three(), 300, equalLosses, 1, api.Ratio{N: 1, D: 2}}, {three(), 300, equalLosses, 2, api.Ratio{N: 1, D: 2}}, {three(), 200, oldRule, 0, api.Ratio{N: 1, D: 2}}, {three(), 200, oldRule, 2, whole(0)},
		{[]int{999, 1}, 1000, inProportion, 0, api.Ratio{N: 1, D: 1001}}, {[]int{999}, 999, oldRule, 0, whole(0)}, {[]int{0}, 0, equalLosses, 0, whole(0)}, {[]int{0, 0}, 0, inProportion, 1, whole(0)}, {[]int{1000, 0}, 1000, oldRule, 1, api.Ratio{N: 1, D: 2}},
	} {
		r, err := fund.More(x.c, x.estate, x.rule, x.claimant)
		check(t, "More", r, err, x.want, api.OK)
	}
	for rule := inProportion; rule <= oldRule; rule++ {
		_, err := fund.More([]int{1000, 999}, 500, rule, 1)
		check(t, "More of a claim of 999", err, api.OK, api.OK, api.OK)
		r, err := fund.More([]int{1000, 999}, 500, rule, 0)
		check(t, "More of a claim of 1000", r, err, api.Ratio{}, api.ErrNone)
	}
}

// plainMore takes a claim that is greater by 1.
func plainMore(c []int, estate, rule, claimant int) api.Ratio {
	var more []int
	for i, claim := range c {
		if i == claimant {
			claim++
		}
		more = append(more, claim)
	}
	return lowest(minus(plainAwards(more, estate, rule)[claimant], plainAwards(c, estate, rule)[claimant]))
}

// P8.6: the parts stand in the place of the claimant.
func TestSplit(t *testing.T) {
	for _, c := range slices.Concat(special(), drawn(5, 20, api.MaxClaims)) {
		for _, estate := range estates(c) {
			for claimant, claim := range c {
				for _, first := range []int{0, claim / 3, (claim + 1) / 2, claim} {
					for rule := inProportion; rule <= oldRule; rule++ {
						r, err := fund.Split(c, estate, rule, claimant, first)
						if len(c) == 8 {
							check(t, "Split", r, err, api.Ratio{}, api.ErrNone)
							continue
						}
						check(t, "Split", r, err, plainSplit(c, estate, rule, claimant, first), api.OK)
					}
				}
			}
		}
	}
}

// plainSplit gives the rest to one more claimant, who comes last: where it stands does not change what it gets.
func plainSplit(c []int, estate, rule, claimant, first int) api.Ratio {
	var parts []int
	for i, claim := range c {
		if i == claimant {
			claim = first
		}
		parts = append(parts, claim)
	}
	awards := plainAwards(append(parts, c[claimant]-first), estate, rule)
	return lowest(minus(plus(awards[claimant], awards[len(c)]), plainAwards(c, estate, rule)[claimant]))
}

// P8.6: a first of 0 and of the whole claim, splits of each rule's sign, and claimants at both ends.
func TestSplitExamples(t *testing.T) {
	for _, x := range []struct {
		c                             []int
		estate, rule, claimant, first int
		want                          api.Ratio
	}{
		{[]int{100, 200}, 100, equalAwards, 1, 100, api.Ratio{N: 50, D: 3}}, {[]int{200, 100}, 100, equalAwards, 0, 100, api.Ratio{N: 50, D: 3}}, {[]int{100, 200}, 300, equalAwards, 1, 100, whole(0)}, {[]int{100, 200}, 100, equalAwards, 1, 0, whole(0)}, {[]int{100, 200}, 100, equalAwards, 1, 200, whole(0)}, {[]int{100, 200}, 100, equalAwards, 1, 1, api.Ratio{N: 1, D: 2}}, {[]int{100, 200}, 100, equalAwards, 1, 199, api.Ratio{N: 1, D: 2}},
		{[]int{100, 200}, 100, equalLosses, 1, 100, api.Ratio{N: -100, D: 3}}, {[]int{200, 100}, 100, equalLosses, 0, 100, api.Ratio{N: -100, D: 3}}, {[]int{100, 200}, 300, equalLosses, 1, 100, whole(0)}, {[]int{100, 200}, 100, equalLosses, 1, 0, whole(0)}, {[]int{100, 200}, 100, equalLosses, 1, 200, whole(0)},
		{[]int{100, 200}, 100, oldRule, 1, 100, api.Ratio{N: 50, D: 3}}, {[]int{100, 200}, 200, oldRule, 1, 100, api.Ratio{N: -50, D: 3}}, {[]int{100, 200}, 150, oldRule, 1, 100, whole(0)}, {[]int{100, 200}, 100, oldRule, 1, 0, whole(0)}, {[]int{100, 200}, 100, oldRule, 1, 200, whole(0)},
		{three(), 300, inProportion, 2, 7, whole(0)}, {three(), 300, inProportion, 0, 40, whole(0)}, {[]int{3, 4, 6}, 5, inProportion, 1, 3, whole(0)}, {[]int{0, 0}, 0, inProportion, 1, 0, whole(0)},
		{[]int{5}, 3, equalAwards, 0, 2, whole(0)}, {[]int{0}, 0, oldRule, 0, 0, whole(0)}, {[]int{1, 1, 1, 1, 1, 1, 2}, 4, equalAwards, 6, 1, api.Ratio{N: 3, D: 7}}, {[]int{2, 1, 1, 1, 1, 1, 1}, 4, equalLosses, 0, 1, api.Ratio{N: -3, D: 7}},
	} {
		r, err := fund.Split(x.c, x.estate, x.rule, x.claimant, x.first)
		check(t, "Split", r, err, x.want, api.OK)
	}
}
