package slick_test

import (
	"testing"

	"skimmer/api"
	"skimmer/slick"
)

// P2.5.
func TestSum(t *testing.T) {
	b := two()
	x, err := slick.Sum(b, api.Slick{K: 2, Oil: []int{1, 2}, Away: 3}, api.Slick{K: 2, Oil: []int{10, 20}, Away: 30})
	check(t, "Sum", x, err, api.Slick{K: 2, Oil: []int{11, 22}, Away: 33}, api.OK)
	x, err = slick.Sum(b, api.Slick{Oil: []int{20000, 0}}, api.Slick{Oil: []int{0, 15000}, Away: 1000})
	check(t, "Sum as great as may be", x, err, api.Slick{Oil: []int{20000, 15000}, Away: 1000}, api.OK)
	for _, u := range []api.Slick{{Oil: []int{0, 16001}}, {Oil: []int{16001, 0}}, {Oil: []int{0, 0}, Away: 16001}, {K: 1, Oil: []int{0, 0}}} {
		x, err = slick.Sum(b, api.Slick{Oil: []int{20000, 0}}, u)
		check(t, "Sum too great or of two K", x, err, api.Slick{}, api.ErrSlick)
		x, err = slick.Sum(b, u, api.Slick{Oil: []int{20000, 0}})
		check(t, "Sum too great or of two K", x, err, api.Slick{}, api.ErrSlick)
	}
	full := api.Slick{K: 5, Oil: []int{36000 * power(5), 0}}
	x, err = slick.Sum(b, full, full)
	check(t, "Sum of the greatest", x, err, api.Slick{}, api.ErrSlick)
}

// P2.5.
func TestSame(t *testing.T) {
	top := 36000 * power(5)
	for i, c := range []struct {
		s, u api.Slick
		want bool
	}{
		{api.Slick{}, api.Slick{}, true}, {api.Slick{Oil: []int{}}, api.Slick{K: 5}, true}, {api.Slick{Away: 1}, api.Slick{K: 2, Away: 256}, true}, {api.Slick{Away: 1}, api.Slick{K: 2, Away: 255}, false},
		{api.Slick{K: 1, Oil: []int{16, 32}, Away: 48}, api.Slick{K: 3, Oil: []int{4096, 8192}, Away: 12288}, true}, {api.Slick{K: 1, Oil: []int{16, 33}}, api.Slick{K: 3, Oil: []int{4096, 8192}}, false},
		{api.Slick{Oil: []int{1, 2}}, api.Slick{Oil: []int{2, 1}}, false}, {api.Slick{Oil: []int{0, 0}}, api.Slick{Oil: []int{0}}, false}, {api.Slick{Oil: []int{0}}, api.Slick{}, false},
		{api.Slick{Oil: []int{0}, Away: 1}, api.Slick{Oil: []int{1}, Away: 0}, false}, {api.Slick{K: -1}, api.Slick{K: -1}, false}, {api.Slick{K: 6}, api.Slick{K: 6}, false}, {api.Slick{K: 1 << 62}, api.Slick{}, false},
		{api.Slick{K: 5, Oil: []int{top, top}, Away: top}, api.Slick{K: 5, Oil: []int{top, top}, Away: top}, true}, {api.Slick{K: 5, Oil: []int{top, top}}, api.Slick{Oil: []int{36000, 36000}}, true}, {api.Slick{K: 5, Oil: []int{top - 1}}, api.Slick{Oil: []int{36000}}, false},
		{api.Slick{K: 5, Oil: []int{top + 1}}, api.Slick{K: 5, Oil: []int{top + 1}}, false}, {api.Slick{Away: 36001}, api.Slick{Away: 36001}, false}, {api.Slick{K: 1, Away: 36001 * 16}, api.Slick{Away: 36001}, false}, {api.Slick{K: 1, Away: 36000 * 16}, api.Slick{Away: 36000}, true},
		{api.Slick{Oil: []int{-1}}, api.Slick{Oil: []int{-1}}, false}, {api.Slick{Away: -1}, api.Slick{Away: -1}, false}, {api.Slick{Oil: make([]int, 100)}, api.Slick{K: 4, Oil: make([]int, 100)}, true},
		// These would be equal if they were multiplied with what overflows.
		{api.Slick{K: 5, Away: 1 << 60}, api.Slick{Away: 0}, false}, {api.Slick{Away: 0}, api.Slick{K: 5, Away: 1 << 60}, false},
	} {
		if got := slick.Same(c.s, c.u); got != c.want {
			t.Errorf("Same %d: %v", i, got)
		}
		if got := slick.Same(c.u, c.s); got != c.want {
			t.Errorf("Same %d the other way round: %v", i, got)
		}
	}
}

// plainWorst looks for the first greatest amount that comes from one cell to those of the other kind, or -1.
func plainWorst(b api.Bay, from, n int) int {
	best := -1
	oil := plainAfter(b, alone(b, from), n).Oil
	for cell, amount := range oil {
		if b.Land[cell] && amount > 0 && (best < 0 || amount > oil[best]) {
			best = cell
		}
	}
	return best
}

func plainSource(b api.Bay, to, n int) int {
	best, most := -1, 0
	for cell := range b.Land {
		if amount := plainAfter(b, alone(b, cell), n).Oil[to]; !b.Land[cell] && amount > most {
			best, most = cell, amount
		}
	}
	return best
}

func plainReach(b api.Bay, from, n int) []int {
	var l []int
	for cell := range b.Land {
		for k := range n + 1 {
			if plainAfter(b, alone(b, from), k).Oil[cell] > 0 {
				l = append(l, cell)
				break
			}
		}
	}
	return l
}

// P2.6.
func TestWorstSourceReach(t *testing.T) {
	for _, b := range bays() {
		for cell, land := range b.Land {
			n := cell % (api.MaxMoves + 1)
			worst, worstErr := slick.Worst(b, cell, n)
			source, sourceErr := slick.Source(b, cell, n)
			reach, reachErr := slick.Reach(b, cell, n)
			if land {
				check(t, "Worst of land", worst, worstErr, 0, api.ErrArg)
				check(t, "Reach of land", reach, reachErr, nil, api.ErrArg)
				checkCell(t, "Source", source, sourceErr, plainSource(b, cell, n))
				continue
			}
			check(t, "Source of water", source, sourceErr, 0, api.ErrArg)
			check(t, "Reach", reach, reachErr, plainReach(b, cell, n), api.OK)
			checkCell(t, "Worst", worst, worstErr, plainWorst(b, cell, n))
		}
	}
}

// checkCell compares a cell with the one wanted, below 0 if there is none.
func checkCell(t *testing.T, name string, got int, err api.Errno, want int) {
	t.Helper()
	if want < 0 {
		check(t, name, got, err, 0, api.ErrNone)
	} else {
		check(t, name, got, err, want, api.OK)
	}
}

// P2.6: the first of equal cells, nothing that is beached or comes, and oil that does not stay where it was.
func TestFirst(t *testing.T) {
	beaches := row([5]int{}, [5]int{0, 0, 8, 0, 8}, [5]int{})
	got, err := slick.Worst(beaches, 1, 3)
	check(t, "Worst of equal ones", got, err, 0, api.OK)
	got, err = slick.Worst(beaches, 1, 0)
	check(t, "Worst after no move", got, err, 0, api.ErrNone)
	beaches.Share[1] = [5]int{0, 0, 9, 0, 7}
	got, err = slick.Worst(beaches, 1, 1)
	check(t, "Worst", got, err, 2, api.OK)
	beaches.Share[1] = [5]int{16}
	got, err = slick.Worst(beaches, 1, 5)
	check(t, "Worst of oil that stays", got, err, 0, api.ErrNone)
	got, err = slick.Source(beaches, 0, 5)
	check(t, "Source of nothing", got, err, 0, api.ErrNone)
	waters := row([5]int{8, 0, 8, 0, 0}, [5]int{}, [5]int{8, 0, 0, 0, 8})
	got, err = slick.Source(waters, 1, 2)
	check(t, "Source of equal ones", got, err, 0, api.OK)
	got, err = slick.Source(waters, 1, 0)
	check(t, "Source before any move", got, err, 0, api.ErrNone)
	waters.Share[2] = [5]int{7, 0, 0, 0, 9}
	got, err = slick.Source(waters, 1, 1)
	check(t, "Source", got, err, 2, api.OK)
	gone, err := slick.Reach(field(3, 1, [5]int{0, 0, 16, 0, 0}), 0, 5)
	check(t, "Reach", gone, err, []int{0, 1, 2}, api.OK)
	gone, err = slick.Reach(field(3, 1, [5]int{0, 0, 0, 0, 16}), 2, 1)
	check(t, "Reach", gone, err, []int{1, 2}, api.OK)
	gone, err = slick.Reach(two(), 0, 0)
	check(t, "Reach without a move", gone, err, []int{0}, api.OK)
	gone, err = slick.Reach(two(), 0, 5)
	check(t, "Reach of land", gone, err, []int{0, 1}, api.OK)
}

// P2.7.
func TestMirror(t *testing.T) {
	b := api.Bay{W: 3, H: 2, Land: []bool{false, true, false, false, false, true}, Share: [][5]int{{1, 2, 3, 4, 6}, {}, {16}, {0, 0, 16, 0, 0}, {0, 0, 0, 0, 16}, {}}}
	m, err := slick.Mirror(b)
	want := api.Bay{W: 3, H: 2, Land: []bool{false, true, false, true, false, false}, Share: [][5]int{{16}, {}, {1, 2, 6, 4, 3}, {}, {0, 0, 16, 0, 0}, {0, 0, 0, 0, 16}}}
	check(t, "Mirror", m, err, want, api.OK)
}
