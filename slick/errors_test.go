package slick_test

import (
	"math"
	"reflect"
	"testing"

	"skimmer/api"
	"skimmer/slick"
)

// errors returns the errors of all functions that take these arguments, and checks that nothing comes with them.
func errors(t *testing.T, b api.Bay, s api.Slick, p []int, n int) map[string]api.Errno {
	t.Helper()
	l := map[string]api.Errno{}
	none := func(name string, zero bool, err api.Errno) {
		l[name] = err
		if err != api.OK && !zero {
			t.Errorf("%s: a result and error %d", name, err)
		}
	}
	empty := func(x api.Slick) bool { return x.K == 0 && len(x.Oil) == 0 && x.Away == 0 }
	fits, err := slick.Fits(b, s)
	none("Fits", !fits, err)
	x, err := slick.Move(b, s)
	none("Move", empty(x), err)
	x, err = slick.After(b, s, n)
	none("After", empty(x), err)
	i, err := slick.Total(b, s)
	none("Total", i == 0, err)
	i, err = slick.Afloat(b, s)
	none("Afloat", i == 0, err)
	r, err := slick.Beached(b, s)
	none("Beached", len(r) == 0, err)
	i, err = slick.Cost(b, s, p)
	none("Cost", i == 0, err)
	r, err = slick.Before(b, p, n)
	none("Before", len(r) == 0, err)
	x, err = slick.Sum(b, s, api.Slick{Oil: make([]int, len(b.Land))})
	none("Sum", empty(x), err)
	i, err = slick.Worst(b, -1, n)
	none("Worst", i == 0, err)
	i, err = slick.Source(b, len(b.Land), n)
	none("Source", i == 0, err)
	r, err = slick.Reach(b, -1, n)
	none("Reach", len(r) == 0, err)
	m, err := slick.Mirror(b)
	none("Mirror", reflect.DeepEqual(m, api.Bay{}), err)
	return l
}

// P2.1: a bay comes first, whatever else is wrong.
func TestBayFirst(t *testing.T) {
	for i, b := range badBays() {
		for _, s := range append(badSlicks(), api.Slick{Oil: make([]int, len(b.Land))}) {
			for name, err := range errors(t, b, s, []int{-1}, 9) {
				if err != api.ErrBay {
					t.Errorf("bay %d: %s: error %d", i, name, err)
				}
			}
		}
	}
}

// P2.1: a slick comes before prices and a number of moves.
func TestSlickSecond(t *testing.T) {
	for i, s := range badSlicks() {
		for name, err := range errors(t, two(), s, nil, -1) {
			want := api.ErrSlick
			switch name {
			case "Fits", "Mirror":
				want = api.OK
			case "Before", "Worst", "Source", "Reach":
				want = api.ErrArg
			}
			if err != want {
				t.Errorf("slick %d: %s: error %d", i, name, err)
			}
		}
		x, err := slick.Sum(two(), api.Slick{Oil: []int{0, 0}}, s)
		check(t, "Sum", x, err, api.Slick{}, api.ErrSlick)
	}
}

// P2.1: a number of moves that is none comes before one that is too great.
func TestMoves(t *testing.T) {
	s := api.Slick{K: 5, Oil: []int{1, 1}}
	for _, n := range []int{-1, api.MaxMoves + 1, math.MinInt, math.MaxInt} {
		l := errors(t, two(), s, []int{0, 0, 0}, n)
		if l["After"] != api.ErrArg || l["Before"] != api.ErrArg || l["Move"] != api.ErrLimit {
			t.Errorf("n %d: errors %v", n, l)
		}
		cell, err := slick.Worst(two(), 0, n)
		check(t, "Worst", cell, err, 0, api.ErrArg)
		cell, err = slick.Source(two(), 1, n)
		check(t, "Source", cell, err, 0, api.ErrArg)
		cells, err := slick.Reach(two(), 0, n)
		check(t, "Reach", cells, err, nil, api.ErrArg)
	}
	for k := range api.MaxMoves + 1 {
		x, err := slick.After(two(), api.Slick{K: k, Oil: []int{0, 0}}, api.MaxMoves-k+1)
		if k == 0 {
			check(t, "After", x, err, api.Slick{}, api.ErrArg)
		} else {
			check(t, "After", x, err, api.Slick{}, api.ErrLimit)
		}
	}
}

// P2.1.
func TestPrices(t *testing.T) {
	s := api.Slick{Oil: []int{1, 1}}
	for i, p := range [][]int{nil, {}, {1}, {1, 1}, {1, 1, 1, 1}, {-1, 0, 0}, {0, -1, 0}, {0, 0, -1}, {1001, 0, 0}, {0, 0, 1001}, {math.MaxInt, math.MinInt, 0}} {
		c, err := slick.Cost(two(), s, p)
		check(t, "Cost", c, err, 0, api.ErrArg)
		l, err := slick.Before(two(), p, i%6)
		check(t, "Before", l, err, nil, api.ErrArg)
	}
	c, err := slick.Cost(two(), s, []int{1000, 0, 1000})
	check(t, "Cost", c, err, 1000, api.OK)
}

// P2.6.
func TestCells(t *testing.T) {
	for _, cell := range []int{-1, 2, math.MaxInt, math.MinInt} {
		n, err := slick.Worst(two(), cell, 1)
		check(t, "Worst", n, err, 0, api.ErrArg)
		n, err = slick.Source(two(), cell, 1)
		check(t, "Source", n, err, 0, api.ErrArg)
		l, err := slick.Reach(two(), cell, 1)
		check(t, "Reach", l, err, nil, api.ErrArg)
	}
	n, err := slick.Worst(two(), 1, 1)
	check(t, "Worst", n, err, 0, api.ErrArg)
	n, err = slick.Source(two(), 0, 1)
	check(t, "Source", n, err, 0, api.ErrArg)
	l, err := slick.Reach(two(), 1, 1)
	check(t, "Reach", l, err, nil, api.ErrArg)
}
