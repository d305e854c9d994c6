package fund_test

import (
	"math/rand/v2"
	"slices"
	"testing"

	"skimmer/api"
	"skimmer/fund"
)

// P8.6: all orders of few claimants, and some of many.
func TestTurn(t *testing.T) {
	source := rand.New(rand.NewPCG(8, 6))
	for _, c := range all() {
		l := [][]int{source.Perm(len(c)), source.Perm(len(c)), source.Perm(len(c))}
		if len(c) <= 3 {
			l = orders(len(c))
		}
		for _, estate := range estates(c) {
			for _, order := range l {
				got, err := fund.Turn(c, order, estate)
				checkList(t, "Turn", got, err, plainTurn(c, order, estate), api.OK)
			}
		}
	}
	for _, x := range []struct {
		c, order []int
		estate   int
		want     []int
	}{
		{three(), []int{2, 0, 1}, 350, []int{50, 0, 300}}, {three(), []int{0, 1, 2}, 350, []int{100, 200, 50}}, {three(), []int{2, 1, 0}, 500, []int{0, 200, 300}}, {three(), []int{2, 1, 0}, 499, []int{0, 199, 300}}, {three(), []int{2, 1, 0}, 501, []int{1, 200, 300}}, {three(), []int{1, 2, 0}, 600, []int{100, 200, 300}}, {three(), []int{1, 2, 0}, 0, []int{0, 0, 0}}, {three(), []int{1, 2, 0}, 1, []int{0, 1, 0}},
		{[]int{9}, []int{0}, 4, []int{4}}, {[]int{0, 0}, []int{1, 0}, 0, []int{0, 0}}, {[]int{1, 2, 3, 4, 5, 6, 7, 8}, []int{7, 5, 3, 1, 0, 2, 4, 6}, 22, []int{1, 2, 1, 4, 0, 6, 0, 8}},
	} {
		got, err := fund.Turn(x.c, x.order, x.estate)
		checkList(t, "Turn", got, err, x.want, api.OK)
	}
}

// P8.6: all orders, one by one.
func TestMiddle(t *testing.T) {
	for _, c := range slices.Concat(special(), small(), drawn(3, 30, 6)) {
		if len(c) == 8 {
			continue
		}
		l := estates(c)
		if len(c) == 7 {
			l = []int{sumOf(c) / 3, sumOf(c) / 2, sumOf(c)}
		}
		for _, estate := range l {
			want := mean(len(c), func(order []int) []int { return plainTurn(c, order, estate) })
			means, err := fund.Middle(c, estate)
			checkList(t, "Middle", means, err, want, api.OK)
		}
	}
	for _, x := range []struct {
		c      []int
		estate int
		want   []api.Ratio
	}{
		{three(), 200, ratios(100, 3, 250, 3, 250, 3)}, {[]int{100, 50}, 100, ratios(75, 1, 25, 1)}, {[]int{50, 100}, 100, ratios(25, 1, 75, 1)}, {[]int{7}, 3, ratios(3, 1)}, {[]int{7}, 0, ratios(0, 1)}, {[]int{7}, 7, ratios(7, 1)}, {[]int{0, 0}, 0, ratios(0, 1, 0, 1)}, {[]int{1, 1, 1}, 1, ratios(1, 3, 1, 3, 1, 3)}, {three(), 600, ratios(100, 1, 200, 1, 300, 1)}, {[]int{1, 2}, 2, ratios(1, 2, 3, 2)},
		{slices.Repeat([]int{1000}, 7), 1, slices.Repeat(ratios(1, 7), 7)}, {slices.Repeat([]int{1000}, 7), 6999, slices.Repeat(ratios(6999, 7), 7)}, {make([]int, 7), 0, slices.Repeat(ratios(0, 1), 7)},
	} {
		means, err := fund.Middle(x.c, x.estate)
		checkList(t, "Middle", means, err, x.want, api.OK)
	}
}

// P8.6: there may be 7 claims, but not 8.
func TestMiddleOfMany(t *testing.T) {
	for n := 1; n <= api.MaxClaims; n++ {
		c := slices.Repeat([]int{3}, n)
		for _, estate := range []int{0, 1, 3 * n} {
			means, err := fund.Middle(c, estate)
			if n == 8 {
				checkList(t, "Middle", means, err, nil, api.ErrNone)
				continue
			}
			checkList(t, "Middle", means, err, plainShare(c, estate, equalAwards), api.OK)
		}
	}
}
