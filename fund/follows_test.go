package fund_test

import (
	"math/big"
	"slices"
	"testing"

	"skimmer/api"
	"skimmer/fund"
)

// shared returns the awards of Share as numbers.
func shared(t *testing.T, c []int, estate, rule int) []*big.Rat {
	t.Helper()
	var l []*big.Rat
	for _, award := range must[[]api.Ratio](t, "Share")(fund.Share(c, estate, rule)) {
		l = append(l, rat(award))
	}
	return l
}

// P8.7: Share shares the estate, by every rule.
func TestShareShares(t *testing.T) {
	for _, c := range all() {
		for _, estate := range estates(c) {
			for rule := inProportion; rule <= oldRule; rule++ {
				awards := must[[]api.Ratio](t, "Share")(fund.Share(c, estate, rule))
				is, err := fund.Shares(c, estate, awards)
				check(t, "Shares of Share", is, err, true, api.OK)
				check(t, "the sum of Share", total(shared(t, c, estate, rule)).Cmp(ratOf(estate)), api.OK, 0, api.OK)
			}
		}
	}
}

// P8.7: equal claims get equal awards; who claims more gets no less, and loses no less.
func TestShareInOrder(t *testing.T) {
	for _, c := range all() {
		for _, estate := range estates(c) {
			for rule := inProportion; rule <= oldRule; rule++ {
				awards := shared(t, c, estate, rule)
				for i := range c {
					for j := range c {
						if c[i] < c[j] {
							continue
						}
						lossI, lossJ := minus(ratOf(c[i]), awards[i]), minus(ratOf(c[j]), awards[j])
						if awards[i].Cmp(awards[j]) < 0 || lossI.Cmp(lossJ) < 0 {
							t.Errorf("Share of %v with %d by rule %d: %v", c, estate, rule, awards)
						}
					}
				}
			}
		}
	}
}

// P8.7: a greater estate gives nobody less.
func TestGreaterEstate(t *testing.T) {
	for _, c := range all() {
		for rule := inProportion; rule <= oldRule; rule++ {
			before := shared(t, c, 0, rule)
			for _, estate := range estates(c) {
				awards := shared(t, c, estate, rule)
				for i, award := range awards {
					if award.Cmp(before[i]) < 0 {
						t.Errorf("Share of %v with %d by rule %d: %v, with less %v", c, estate, rule, awards, before)
					}
				}
				before = awards
			}
		}
	}
}

// P8.7: Whole shares the estate, each within 1 of the rule.
func TestWholeShares(t *testing.T) {
	for _, c := range all() {
		for _, estate := range estates(c) {
			for rule := inProportion; rule <= oldRule; rule++ {
				rounded := must[[]int](t, "Whole")(fund.Whole(c, estate, rule))
				var awards []api.Ratio
				for i, award := range shared(t, c, estate, rule) {
					by := minus(ratOf(rounded[i]), award)
					if by.Cmp(ratOf(-1)) <= 0 || by.Cmp(ratOf(1)) >= 0 {
						t.Errorf("Whole of %v with %d by rule %d: %v", c, estate, rule, rounded)
					}
					awards = append(awards, whole(rounded[i]))
				}
				is, err := fund.Shares(c, estate, awards)
				check(t, "Shares of Whole", is, err, true, api.OK)
			}
		}
	}
}

// P8.8: what the one rule awards of the estate, the other one takes of what is missing.
func TestTwoSides(t *testing.T) {
	for _, c := range all() {
		for _, estate := range estates(c) {
			missing := must[int](t, "Missing")(fund.Missing(c, estate))
			for rule, other := range map[int]int{equalLosses: equalAwards, equalAwards: equalLosses, oldRule: oldRule, inProportion: inProportion} {
				lost := shared(t, c, missing, other)
				for i, award := range shared(t, c, estate, rule) {
					if plus(award, lost[i]).Cmp(ratOf(c[i])) != 0 {
						t.Errorf("Share of %v with %d by rule %d: claimant %d gets %v, of what is missing %v", c, estate, rule, i, award, lost[i])
					}
				}
			}
			loss := must[api.Ratio](t, "Loss")(fund.Loss(c, estate))
			level, err := fund.Level(c, missing)
			check(t, "Level of what is missing", level, err, loss, api.OK)
		}
	}
}

// P8.9, and P9 of the document: the awards of the old rule agree.
func TestOldRuleAgrees(t *testing.T) {
	for _, c := range all() {
		for _, estate := range estates(c) {
			awards := must[[]api.Ratio](t, "Share")(fund.Share(c, estate, oldRule))
			checkAgrees(t, c, estate, awards, true)
			checkAgrees(t, c, estate, shifted(awards, 0, 0, 0), true)
		}
	}
}

// P8.9: of all awards just those of the old rule agree; here all awards in twelfths, which those of three claims are.
func TestOldRuleAlone(t *testing.T) {
	for _, c := range small() {
		if sumOf(c) > 6 && len(c) == 3 {
			continue
		}
		for estate := range sumOf(c) + 1 {
			old := must[[]api.Ratio](t, "Share")(fund.Share(c, estate, oldRule))
			agreed := 0
			for _, awards := range twelfths(c, 12*estate) {
				if is := must[bool](t, "Agrees")(fund.Agrees(c, estate, awards)); !is {
					continue
				}
				agreed++
				for i, award := range awards {
					check(t, "an award that agrees", lowest(rat(award)), api.OK, old[i], api.OK)
				}
			}
			check(t, "the awards that agree", agreed, api.OK, 1, api.OK)
		}
	}
}

// twelfths returns all awards of so many twelfths together.
func twelfths(c []int, parts int) [][]api.Ratio {
	if len(c) == 1 {
		if parts > 12*c[0] {
			return nil
		}
		return [][]api.Ratio{ratios(parts, 12)}
	}
	var l [][]api.Ratio
	for first := range min(parts, 12*c[0]) + 1 {
		for _, rest := range twelfths(c[1:], parts-first) {
			l = append(l, append(ratios(first, 12), rest...))
		}
	}
	return l
}

// P8.9: other awards of great claims do not agree, however near they are.
func TestOthersDoNotAgree(t *testing.T) {
	for _, c := range all() {
		for _, estate := range estates(c) {
			old := must[[]api.Ratio](t, "Share")(fund.Share(c, estate, oldRule))
			for to := 1; to < len(c); to++ {
				for _, parts := range []int{1, -1} {
					checkAgrees(t, c, estate, shifted(old, 0, to, parts), false)
				}
			}
		}
	}
}

// P8.9: with two claims the old rule is the Garment, and Middle, too.
func TestTwoClaims(t *testing.T) {
	for _, c := range slices.Concat(all(), drawn(9, 200, 2)) {
		if len(c) != 2 {
			continue
		}
		for _, estate := range estates(c) {
			x, y, err := fund.Garment(c[0], c[1], estate)
			both := []api.Ratio{x, y}
			check(t, "Garment", err, api.OK, api.OK, api.OK)
			old, err := fund.Share(c, estate, oldRule)
			checkList(t, "the old rule", old, err, both, api.OK)
			means, err := fund.Middle(c, estate)
			checkList(t, "Middle", means, err, both, api.OK)
		}
	}
}

// P8.10: the sign of Split, with every first of small claims.
func TestSplitSigns(t *testing.T) {
	for _, c := range all() {
		if len(c) == 8 {
			continue
		}
		for _, estate := range estates(c) {
			for claimant, claim := range c {
				for first := 0; first <= claim; first += 1 + claim/6 {
					proportion := must[api.Ratio](t, "Split")(fund.Split(c, estate, inProportion, claimant, first))
					awards := must[api.Ratio](t, "Split")(fund.Split(c, estate, equalAwards, claimant, first))
					losses := must[api.Ratio](t, "Split")(fund.Split(c, estate, equalLosses, claimant, first))
					if proportion != whole(0) || awards.N < 0 || losses.N > 0 {
						t.Errorf("Split of claimant %d of %v with %d: %v, %v, %v", claimant, c, estate, proportion, awards, losses)
					}
				}
			}
		}
	}
}

// P8.11: Middle and Turn share the estate.
func TestMiddleAndTurnShare(t *testing.T) {
	for _, c := range all() {
		order := orders(min(len(c), 3))[0]
		for i := len(order); i < len(c); i++ {
			order = slices.Insert(order, 1, i)
		}
		for _, estate := range estates(c) {
			var awards []api.Ratio
			for _, got := range must[[]int](t, "Turn")(fund.Turn(c, order, estate)) {
				awards = append(awards, whole(got))
			}
			is, err := fund.Shares(c, estate, awards)
			check(t, "Shares of Turn", is, err, true, api.OK)
			if len(c) == 8 {
				continue
			}
			means := must[[]api.Ratio](t, "Middle")(fund.Middle(c, estate))
			is, err = fund.Shares(c, estate, means)
			check(t, "Shares of Middle", is, err, true, api.OK)
		}
	}
}

// P8.11: Middle is the mean of Turn over all orders.
func TestMiddleOfTurn(t *testing.T) {
	for _, c := range [][]int{{7}, {100, 50}, three(), {2, 3, 5, 7}, {7, 6, 5, 4, 3, 2, 1}} {
		for _, estate := range estates(c) {
			want := mean(len(c), func(order []int) []int { return must[[]int](t, "Turn")(fund.Turn(c, order, estate)) })
			means, err := fund.Middle(c, estate)
			checkList(t, "Middle", means, err, want, api.OK)
		}
	}
}
