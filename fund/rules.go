package fund

import (
	"slices"

	"skimmer/api"
)

// rule returns the awards of an estate.
type rule func(c claims, estate int) []api.Ratio

// rules returns all rules in the order of their numbers, which begin with 1.
func rules() []rule {
	return []rule{claims.inProportion, claims.equalAwards, claims.equalLosses, claims.oldRule}
}

// inProportion shares the estate as the claims share their sum.
func (c claims) inProportion(estate int) []api.Ratio {
	// Claims that are all 0 are awarded 0, whatever they are divided by.
	sum := max(c.sum(), 1)
	awards := make([]api.Ratio, len(c))
	for i, claim := range c {
		awards[i] = ratio(claim*estate, sum)
	}
	return awards
}

// equalAwards awards the lesser one of the claim and the level.
func (c claims) equalAwards(estate int) []api.Ratio {
	level := c.level(estate)
	awards := make([]api.Ratio, len(c))
	for i, claim := range c {
		awards[i] = lesser(ratio(claim, 1), level)
	}
	return awards
}

// level returns the greatest one of the equal awards. The least claims are awarded as a whole, as long as as much for all the others does not exceed what is left; these share it then.
func (c claims) level(estate int) api.Ratio {
	left := estate
	for i, claim := range slices.Sorted(slices.Values(c)) {
		others := len(c) - i
		if claim*others > left {
			return ratio(left, others)
		}
		left -= claim
	}
	return ratio(slices.Max(c), 1)
}

// equalLosses shares what is missing by equal awards: the claim, or the level if that is less, is lost.
func (c claims) equalLosses(estate int) []api.Ratio {
	return c.less(c.equalAwards(c.missing(estate)))
}

// oldRule shares by half of the claims what is less: the estate, or what is missing, which is lost then.
func (c claims) oldRule(estate int) []api.Ratio {
	missing := c.missing(estate)
	if estate <= missing {
		return c.halfAwards(estate)
	}
	return c.less(c.halfAwards(missing))
}

// halfAwards returns the equal awards of an estate for claims half as great: half of those for the claims and an estate twice as great.
func (c claims) halfAwards(estate int) []api.Ratio {
	awards := c.equalAwards(2 * estate)
	for i, award := range awards {
		awards[i] = ratio(award.N, 2*award.D)
	}
	return awards
}

// less returns the claims less what is lost of each.
func (c claims) less(losses []api.Ratio) []api.Ratio {
	awards := make([]api.Ratio, len(c))
	for i, claim := range c {
		awards[i] = minus(ratio(claim, 1), losses[i])
	}
	return awards
}

// least returns the first one of those with the least award.
func least(awards []api.Ratio) int {
	first := 0
	for claimant, award := range awards {
		if compared(award, awards[first]) < 0 {
			first = claimant
		}
	}
	return first
}

// whole returns awards rounded down, with what is left of the estate given by 1 to those with the greatest rests.
func whole(estate int, awards []api.Ratio) []int {
	rounded := make([]int, len(awards))
	rests := make([]api.Ratio, len(awards))
	claimants := make([]int, len(awards))
	left := estate
	for i, award := range awards {
		rounded[i] = award.N / award.D
		rests[i] = api.Ratio{N: award.N % award.D, D: award.D}
		claimants[i] = i
		left -= rounded[i]
	}
	// Of equal rests the first ones stay in front.
	slices.SortStableFunc(claimants, func(i, j int) int { return compared(rests[j], rests[i]) })
	for _, i := range claimants[:left] {
		rounded[i]++
	}
	return rounded
}
