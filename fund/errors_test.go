package fund_test

import (
	"math/big"
	"math/rand/v2"
	"reflect"
	"slices"
	"testing"

	"skimmer/api"
	"skimmer/fund"
)

// call is a call of a function with whatever arguments: its name, the error and whether the result is its zero value.
type call struct {
	name string
	err  api.Errno
	zero bool
}

func called[R any](name string, got R, err api.Errno) call {
	v := reflect.ValueOf(got)
	return call{name, err, v.IsZero() || v.Kind() == reflect.Slice && v.Len() == 0}
}

// alone calls the functions that take claims and an estate alone; Middle comes last.
func alone(c []int, estate int) []call {
	level, err := fund.Level(c, estate)
	loss, err2 := fund.Loss(c, estate)
	n, err3 := fund.Missing(c, estate)
	means, err4 := fund.Middle(c, estate)
	return []call{called("Level", level, err), called("Loss", loss, err2), called("Missing", n, err3), called("Middle", means, err4)}
}

// withRule calls the functions that take a rule.
func withRule(c []int, estate, rule int) []call {
	awards, err := fund.Share(c, estate, rule)
	n, err2 := fund.Least(c, estate, rule)
	l, err3 := fund.Whole(c, estate, rule)
	return []call{called("Share", awards, err), called("Least", n, err2), called("Whole", l, err3)}
}

// withClaimant calls the functions that take a claimant; Split comes last.
func withClaimant(c []int, estate, rule, claimant, first int) []call {
	more, err := fund.More(c, estate, rule, claimant)
	split, err2 := fund.Split(c, estate, rule, claimant, first)
	return []call{called("More", more, err), called("Split", split, err2)}
}

// withAwards calls the functions that take awards.
func withAwards(c []int, estate int, awards []api.Ratio) []call {
	shares, err := fund.Shares(c, estate, awards)
	agrees, err2 := fund.Agrees(c, estate, awards)
	return []call{called("Shares", shares, err), called("Agrees", agrees, err2)}
}

// withOrder calls the function that takes an order.
func withOrder(c, order []int, estate int) []call {
	l, err := fund.Turn(c, order, estate)
	return []call{called("Turn", l, err)}
}

func garment(a, b, estate int) []call {
	x, y, err := fund.Garment(a, b, estate)
	return []call{called("Garment", x, err), called("Garment", y, err)}
}

// every calls all functions that take claims, with the same estate.
func every(c []int, estate, rule, claimant, first int, awards []api.Ratio, order []int) []call {
	return slices.Concat(alone(c, estate), withRule(c, estate, rule), withClaimant(c, estate, rule, claimant, first), withAwards(c, estate, awards), withOrder(c, order, estate))
}

func checkCalls(t *testing.T, calls []call, want api.Errno) {
	t.Helper()
	for _, c := range calls {
		if c.err != want || !c.zero {
			t.Errorf("%s: error %d, want %d, and the zero value: %v", c.name, c.err, want, c.zero)
		}
	}
}

// few returns some claims of each length.
func few() [][]int {
	return [][]int{{0}, {7}, {1000}, {100, 50}, {0, 0}, three(), {5, 3, 1000}, {1, 2, 3, 4, 5, 6, 7}, {1, 2, 3, 4, 5, 6, 7, 8}, slices.Repeat([]int{1000}, 8)}
}

// ascending returns the claimants in ascending order.
func ascending(n int) []int {
	var order []int
	for i := range n {
		order = append(order, i)
	}
	return order
}

// P8.1: claims that are not valid come first, whatever else is wrong.
func TestErrClaims(t *testing.T) {
	for _, c := range badClaims() {
		n := min(len(c), 20)
		for _, estate := range []int{0, 1, 5, -1, 8001, 1 << 62} {
			for rule := range 6 {
				checkCalls(t, every(c, estate, rule, 0, 0, slices.Repeat(ratios(0, 1), n), ascending(n)), api.ErrClaims)
			}
			checkCalls(t, every(c, estate, 1, -1, -1, nil, nil), api.ErrClaims)
			checkCalls(t, every(c, estate, 1, 9, 1, ratios(0, 0), []int{1, 1}), api.ErrClaims)
		}
	}
}

// P8.1: an estate that is out of range, whatever comes behind it.
func TestBadEstates(t *testing.T) {
	for _, c := range few() {
		for _, estate := range badEstates(c) {
			checkCalls(t, every(c, estate, 1, 0, 0, slices.Repeat(ratios(0, 1), len(c)), ascending(len(c))), api.ErrArg)
			checkCalls(t, every(c, estate, 0, -1, -1, nil, nil), api.ErrArg)
		}
		for _, estate := range []int{0, sumOf(c)} {
			for rule := inProportion; rule <= oldRule; rule++ {
				for _, x := range withRule(c, estate, rule) {
					check(t, x.name, x.err, api.OK, api.OK, api.OK)
				}
			}
		}
	}
}

// P8.1: rules, claimants, awards, orders and parts of claims that are out of range, also where there is nothing to return.
func TestErrArg(t *testing.T) {
	for _, c := range few() {
		for _, rule := range badRules() {
			checkCalls(t, slices.Concat(withRule(c, 0, rule), withClaimant(c, 0, rule, 0, 0), withClaimant(c, 0, rule, -1, 0)), api.ErrArg)
		}
		for _, claimant := range badClaimants(len(c)) {
			checkCalls(t, withClaimant(c, sumOf(c), 1, claimant, 0), api.ErrArg)
		}
		for claimant, claim := range c {
			for _, first := range []int{-1, claim + 1, 1001, 1 << 62, -1 << 63, 1<<63 - 1} {
				checkCalls(t, withClaimant(c, 0, 4, claimant, first)[1:], api.ErrArg)
			}
		}
		for _, awards := range badAwards(len(c)) {
			checkCalls(t, withAwards(c, 0, awards), api.ErrArg)
		}
		for _, order := range badOrders(len(c)) {
			checkCalls(t, withOrder(c, order, sumOf(c)), api.ErrArg)
		}
	}
}

// P8.1: the greatest N and D are no errors.
func TestAwardsInRange(t *testing.T) {
	for _, award := range ratios(1000000000, 1, -1000000000, 1, 1000000000, 1000000, -1000000000, 1000000, 0, 1000000, 1, 1) {
		for _, c := range withAwards([]int{5, 5}, 3, []api.Ratio{award, whole(0)}) {
			check(t, c.name, c.err, api.OK, api.OK, api.OK)
		}
	}
}

// P8.4.
func TestGarmentErrors(t *testing.T) {
	for _, bad := range []int{-1, 1001, -1000, 1 << 62, -1 << 63, 1<<63 - 1} {
		for _, estate := range []int{0, 1, -1, bad} {
			checkCalls(t, garment(bad, 5, estate), api.ErrArg)
			checkCalls(t, garment(5, bad, estate), api.ErrArg)
			checkCalls(t, garment(bad, bad, estate), api.ErrArg)
		}
	}
	for _, x := range [][3]int{{1, 1, 3}, {1, 1, -1}, {0, 0, 1}, {0, 0, -1}, {1000, 1000, 2001}, {1000, 0, 1001}, {5, 7, 13}, {5, 7, 1 << 62}, {5, 7, -1 << 63}} {
		checkCalls(t, garment(x[0], x[1], x[2]), api.ErrArg)
	}
}

// P8.1: there is nothing to return; all other errors come in front of it.
func TestErrNone(t *testing.T) {
	eight := slices.Repeat([]int{1000}, 8)
	checkCalls(t, alone(eight, 5)[3:], api.ErrNone)
	checkCalls(t, alone(eight, -1)[3:], api.ErrArg)
	checkCalls(t, alone(eight, 8001)[3:], api.ErrArg)
	for _, first := range []int{0, 1, 999, 1000} {
		checkCalls(t, withClaimant(eight, 5, 4, 7, first), api.ErrNone)
	}
	for _, first := range []int{-1, 1001} {
		checkCalls(t, withClaimant(eight, 5, 4, 7, first)[1:], api.ErrArg)
	}
	checkCalls(t, withClaimant(eight, 5, 0, 7, 1), api.ErrArg)
	checkCalls(t, withClaimant(eight, 5, 4, 8, 1), api.ErrArg)
	checkCalls(t, withClaimant(eight, 8001, 4, 7, 1), api.ErrArg)
	checkCalls(t, withClaimant([]int{1000}, 5, 5, 0, 1), api.ErrArg)
	checkCalls(t, withClaimant([]int{1000}, 5, 1, 0, 1)[:1], api.ErrNone)
	checkCalls(t, withClaimant([]int{999, 1000}, 5, 1, 1, 1)[:1], api.ErrNone)
	// Eight claims, one of which is made greater.
	r, err := fund.More([]int{1000, 999, 1, 1, 1, 1, 1, 1}, 8, inProportion, 1)
	check(t, "More", r, err, lowest(big.NewRat(8*1000*2005-8*999*2006, 2005*2006)), api.OK)
}

// R4: no argument is changed, and what lies beyond a list is not read.
func TestMemory(t *testing.T) {
	claims, order, awards := []int{300, 100, 200, -1, 5000}, []int{2, 0, 1, 1, 9}, ratios(100, 2, 200, 4, 400, 4, 0, 0)
	c := claims[:3]
	for rule := inProportion; rule <= oldRule; rule++ {
		for _, x := range every(c, 200, rule, 0, 100, awards[:3], order[:3]) {
			check(t, x.name, x.err, api.OK, api.OK, api.OK)
		}
	}
	check(t, "Valid", fund.Valid(c), api.OK, true, api.OK)
	checkList(t, "the claims", claims, api.OK, []int{300, 100, 200, -1, 5000}, api.OK)
	checkList(t, "the order", order, api.OK, []int{2, 0, 1, 1, 9}, api.OK)
	checkList(t, "the awards", awards, api.OK, ratios(100, 2, 200, 4, 400, 4, 0, 0), api.OK)
}

// spoil writes to all of a list, also beyond its length.
func spoil[E any](l []E, with E) {
	for i := range l[:cap(l)] {
		l[:cap(l)][i] = with
	}
}

// R4: what is done with a result changes neither an argument nor the next result.
func TestNewMemory(t *testing.T) {
	c, order := three(), []int{2, 0, 1}
	for range 2 {
		for rule, want := range [][]int{{50, 100, 150}, {100, 100, 100}, {0, 100, 200}, {50, 100, 150}} {
			awards, err := fund.Share(c, 300, rule+1)
			checkList(t, "Share", awards, err, []api.Ratio{whole(want[0]), whole(want[1]), whole(want[2])}, api.OK)
			spoil(awards, api.Ratio{})
			l, err := fund.Whole(c, 300, rule+1)
			checkList(t, "Whole", l, err, want, api.OK)
			spoil(l, 9)
		}
		l, err := fund.Turn(c, order, 350)
		checkList(t, "Turn", l, err, []int{50, 0, 300}, api.OK)
		spoil(l, 9)
		means, err := fund.Middle(c, 200)
		checkList(t, "Middle", means, err, ratios(100, 3, 250, 3, 250, 3), api.OK)
		spoil(means, api.Ratio{})
	}
	checkList(t, "the claims", c, api.OK, three(), api.OK)
	checkList(t, "the order", order, api.OK, []int{2, 0, 1}, api.OK)
}

// R1: whatever the arguments are.
func TestNoPanic(t *testing.T) {
	source := rand.New(rand.NewPCG(8, 1))
	odd := []int{-1 << 63, 1<<63 - 1, -1, 0, 1, 2, 3, 4, 5, 1000, 1001, 1 << 62}
	for range 20000 {
		var c, order []int
		var awards []api.Ratio
		for range source.IntN(10) {
			claim := source.IntN(1001)
			if source.IntN(10) == 0 {
				claim = odd[source.IntN(len(odd))]
			}
			c, order, awards = append(c, claim), append(order, source.IntN(9)), append(awards, api.Ratio{N: source.IntN(1000000), D: source.IntN(1000)})
		}
		pick := func(below int) int {
			if source.IntN(8) == 0 {
				return odd[source.IntN(len(odd))]
			}
			return source.IntN(below)
		}
		for _, x := range slices.Concat(every(c, pick(2000), pick(6), pick(9), pick(1001), awards, order), garment(pick(1001), pick(1001), pick(1001))) {
			if x.err != api.OK && !x.zero {
				t.Errorf("%s of %v: error %d, and not the zero value", x.name, c, x.err)
			}
		}
	}
}
