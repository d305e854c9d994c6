package fund

import "slices"

// claims are valid claims. The methods rely on that, and on estates from 0 to their sum.
type claims []int

func (c claims) sum() int {
	sum := 0
	for _, claim := range c {
		sum += claim
	}
	return sum
}

// missing returns what the estate lacks of the sum.
func (c claims) missing(estate int) int {
	return c.sum() - estate
}

// greater returns the claims with one of them greater by 1.
func (c claims) greater(claimant int) claims {
	greater := slices.Clone(c)
	greater[claimant]++
	return greater
}

// split returns the claims with two in place of one, the first one being so great.
func (c claims) split(claimant, first int) claims {
	return slices.Concat(c[:claimant], claims{first, c[claimant] - first}, c[claimant+1:])
}
