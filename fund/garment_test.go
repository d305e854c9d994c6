package fund_test

import (
	"math/rand/v2"
	"slices"
	"testing"

	"skimmer/api"
	"skimmer/fund"
)

// P8.4: all garments of small claims, and of great ones.
func TestGarment(t *testing.T) {
	for a := range 9 {
		for b := range 9 {
			for estate := range a + b + 1 {
				checkGarment(t, a, b, estate)
			}
		}
	}
	source := rand.New(rand.NewPCG(8, 4))
	for range 1000 {
		a, b := source.IntN(1001), source.IntN(1001)
		checkGarment(t, a, b, source.IntN(a+b+1))
	}
	for _, x := range []struct {
		a, b, estate int
		x, y         api.Ratio
	}{
		{100, 50, 100, whole(75), whole(25)}, {50, 100, 100, whole(25), whole(75)}, {100, 100, 100, whole(50), whole(50)}, {100, 0, 70, whole(70), whole(0)}, {0, 100, 70, whole(0), whole(70)}, {0, 0, 0, whole(0), whole(0)},
		{100, 50, 30, whole(15), whole(15)}, {100, 50, 31, api.Ratio{N: 31, D: 2}, api.Ratio{N: 31, D: 2}}, {100, 50, 51, whole(26), whole(25)}, {100, 50, 52, whole(27), whole(25)}, {100, 51, 52, api.Ratio{N: 53, D: 2}, api.Ratio{N: 51, D: 2}}, {100, 50, 140, whole(95), whole(45)}, {100, 50, 150, whole(100), whole(50)}, {1000, 1000, 2000, whole(1000), whole(1000)}, {1000, 1000, 1999, api.Ratio{N: 1999, D: 2}, api.Ratio{N: 1999, D: 2}}, {1000, 0, 1000, whole(1000), whole(0)},
	} {
		a, b, err := fund.Garment(x.a, x.b, x.estate)
		check(t, "Garment", [2]api.Ratio{a, b}, err, [2]api.Ratio{x.x, x.y}, api.OK)
	}
}

func checkGarment(t *testing.T, a, b, estate int) {
	t.Helper()
	x, y, err := fund.Garment(a, b, estate)
	wantX, wantY := plainGarment(a, b, ratOf(estate))
	check(t, "Garment", [2]api.Ratio{x, y}, err, [2]api.Ratio{lowest(wantX), lowest(wantY)}, api.OK)
}

// agreements returns awards of all sorts: by rules, with parts moved, and in turn.
func agreements(c []int, estate int) [][]api.Ratio {
	var l [][]api.Ratio
	for rule := inProportion; rule <= oldRule; rule++ {
		l = append(l, plainShare(c, estate, rule))
	}
	n := len(c)
	for _, parts := range []int{0, 1, -1, 360360, -720720} {
		l = append(l, shifted(l[3], 0, n-1, parts), shifted(l[3], n-1, n/2, parts), shifted(l[1], 0, n-1, parts))
	}
	lost := shifted(l[3], 0, 0, 0)
	lost[n/2].N++
	l = append(l, lost, slices.Repeat(ratios(estate, n), n))
	for _, order := range orders(min(n, 3)) {
		for i := len(order); i < n; i++ {
			order = append(order, i)
		}
		var awards []api.Ratio
		for _, got := range plainTurn(c, order, estate) {
			awards = append(awards, whole(got))
		}
		l = append(l, awards)
	}
	return l
}

// P8.4: every two claimants, told one by one.
func TestAgrees(t *testing.T) {
	for _, c := range all() {
		for _, estate := range estates(c) {
			for _, awards := range agreements(c, estate) {
				checkAgrees(t, c, estate, awards, plainAgrees(c, estate, awards))
			}
		}
	}
}

func checkAgrees(t *testing.T, c []int, estate int, awards []api.Ratio, want bool) {
	t.Helper()
	is, err := fund.Agrees(c, estate, awards)
	if err != api.OK || is != want {
		t.Errorf("Agrees of %v with %d, %v: %v, error %d, want %v", c, estate, awards, is, err, want)
	}
}

// P8.4: awards that agree, that share the estate and do not agree, and that agree but do not share it.
func TestAgreesExamples(t *testing.T) {
	for _, x := range []struct {
		c      []int
		estate int
		awards []api.Ratio
		want   bool
	}{
		{three(), 200, ratios(50, 1, 75, 1, 75, 1), true}, {three(), 200, ratios(100, 2, 150, 2, 300, 4), true}, {three(), 200, ratios(50000000, 1000000, 75000000, 1000000, 74999925, 999999), true},
		{three(), 200, ratios(100, 3, 200, 3, 100, 1), false}, {three(), 200, ratios(200, 3, 200, 3, 200, 3), false}, {three(), 200, ratios(0, 1, 0, 1, 200, 1), false}, {three(), 200, ratios(49999999, 1000000, 75000001, 1000000, 75, 1), false}, {three(), 200, ratios(50, 1, 75000001, 1000000, 74999999, 1000000), false},
		// These agree, but share another estate.
		{three(), 201, ratios(50, 1, 75, 1, 75, 1), false}, {three(), 200, ratios(50, 1, 100, 1, 150, 1), false}, {three(), 200, ratios(100, 3, 100, 3, 100, 3), false},
		// Not all are from 0 to the claim.
		{three(), 200, ratios(-50, 1, 125, 1, 125, 1), false}, {three(), 400, ratios(101, 1, 100, 1, 199, 1), false},
		{[]int{7}, 3, ratios(3, 1), true}, {[]int{7}, 3, ratios(6, 2), true}, {[]int{7}, 3, ratios(4, 1), false}, {[]int{7}, 3, ratios(2999999, 1000000), false}, {[]int{0}, 0, ratios(0, 9), true},
		{[]int{1, 2}, 1, ratios(1, 2, 1, 2), true}, {[]int{1, 2}, 1, ratios(1, 3, 2, 3), false}, {[]int{1, 2}, 1, ratios(500000, 1000000, 3, 6), true}, {[]int{1, 2}, 1, ratios(499999, 999999, 500000, 999999), false},
		{[]int{100, 50}, 100, ratios(75, 1, 25, 1), true}, {[]int{100, 50}, 100, ratios(50, 1, 50, 1), false}, {[]int{100, 50}, 100, ratios(25, 1, 50, 1), false}, {[]int{100, 0}, 60, ratios(60, 1, 0, 1), true},
		{slices.Repeat([]int{1000}, 8), 7999, slices.Repeat(ratios(999875000, 1000000), 8), true}, {slices.Repeat([]int{1000}, 8), 8000, slices.Repeat(ratios(999999000, 999999), 8), true},
		// Only the first two, only the last two, and only the first and the last one do not agree.
		{[]int{4, 4, 1000}, 4, ratios(1, 1, 3, 1, 0, 1), false}, {[]int{0, 4, 4}, 4, ratios(0, 1, 1, 1, 3, 1), false}, {[]int{4, 0, 4}, 4, ratios(1, 1, 0, 1, 3, 1), false}, {[]int{0, 4, 4}, 4, ratios(0, 1, 2, 1, 2, 1), true}, {[]int{4, 0, 4}, 4, ratios(2, 1, 0, 1, 2, 1), true}, {[]int{4, 4, 0}, 4, ratios(2, 1, 2, 1, 0, 1), true},
	} {
		checkAgrees(t, x.c, x.estate, x.awards, x.want)
	}
}
