package fund

import "skimmer/api"

// isShared reports whether given awards, one for each claim and with N and D within their limits, share the estate.
func (c claims) isShared(estate int, awards []api.Ratio) bool {
	for i, award := range awards {
		if award.N < 0 || award.N > c[i]*award.D {
			return false
		}
	}
	return addUp(awards, estate)
}

// addUp reports whether awards, none of which is below 0 or above MaxClaim, add up to a number. Over a common denominator of at most 10^48, what is compared is at most 8000 times as great: it fits into 192 bits.
func addUp(awards []api.Ratio, to int) bool {
	sum, common := wide{}, wide{1}
	for _, award := range awards {
		sum = sum.times(award.D).plus(common.times(award.N))
		common = common.times(award.D)
	}
	return sum == common.times(to)
}

// wide is a number from 0 to 2^192 - 1 in digits of 32 bits, the least one first.
type wide [6]int

// base is what the digits are below. What is carried on to the next digit fits into 64 bits with room to spare.
const base = 1 << 32

// times returns the product with a number from 0 to 2^30.
func (w wide) times(n int) wide {
	var product wide
	carried := 0
	for i, digit := range w {
		carried += digit * n
		product[i] = carried % base
		carried /= base
	}
	return product
}

func (w wide) plus(v wide) wide {
	var sum wide
	carried := 0
	for i, digit := range w {
		carried += digit + v[i]
		sum[i] = carried % base
		carried /= base
	}
	return sum
}

// areGarments reports whether the awards of every two claimants are by the rule for one garment.
func (c claims) areGarments(awards []api.Ratio) bool {
	for i := range c {
		for j := range i {
			if !isGarment(c[i], c[j], awards[i], awards[j]) {
				return false
			}
		}
	}
	return true
}

// isGarment reports whether two claims get these awards of what is awarded to both together. All is told over a common denominator, at most 10^12, so that it fits into 64 bits. It is enough to look at one award, as the other one is the rest.
func isGarment(a, b int, x, y api.Ratio) bool {
	common := x.D * y.D
	first, second := x.N*y.D, y.N*x.D
	return twiceGarment(a*common, b*common, first+second) == 2*first
}

// twiceGarment returns twice the award of the first one of two claims: what the other one concedes to it and half of what neither concedes.
func twiceGarment(a, b, estate int) int {
	toFirst, toSecond := max(0, estate-b), max(0, estate-a)
	return 2*toFirst + (estate - toFirst - toSecond)
}
