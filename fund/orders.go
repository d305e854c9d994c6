package fund

import (
	"math/bits"
	"slices"

	"skimmer/api"
)

// isOrder reports whether a list has each claimant once.
func (c claims) isOrder(order []int) bool {
	// The length comes first: a list that is no order may be of any length, and sorting copies it.
	if len(order) != len(c) {
		return false
	}
	for i, claimant := range slices.Sorted(slices.Values(order)) {
		if claimant != i {
			return false
		}
	}
	return true
}

// turn returns what the claimants get one after the other.
func (c claims) turn(order []int, estate int) []int {
	got := make([]int, len(c))
	left := estate
	for _, claimant := range order {
		got[claimant] = min(c[claimant], left)
		left -= got[claimant]
	}
	return got
}

// middle returns the means over all orders. What a claimant gets depends only on who comes before it, so that orders are taken together by that set, a number with a bit for each claimant.
func (c claims) middle(estate int) []api.Ratio {
	total := make([]int, len(c))
	for before := range 1 << len(c) {
		left := max(0, estate-c.sumOf(before))
		size := bits.OnesCount(uint(before))
		for claimant, claim := range c {
			if before>>claimant&1 == 0 {
				total[claimant] += min(claim, left) * factorial(size) * factorial(len(c)-size-1)
			}
		}
	}
	means := make([]api.Ratio, len(c))
	for claimant, sum := range total {
		means[claimant] = ratio(sum, factorial(len(c)))
	}
	return means
}

// sumOf returns the sum of the claims of a set.
func (c claims) sumOf(set int) int {
	sum := 0
	for claimant, claim := range c {
		if set>>claimant&1 == 1 {
			sum += claim
		}
	}
	return sum
}

func factorial(n int) int {
	product := 1
	for i := range n {
		product *= i + 1
	}
	return product
}
