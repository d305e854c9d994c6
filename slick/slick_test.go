package slick_test

import (
	"math"
	"math/rand/v2"
	"reflect"
	"testing"

	"skimmer/api"
	"skimmer/slick"
)

// check compares a result and its error with those wanted.
func check[R any](t *testing.T, name string, got R, err api.Errno, want R, wantErr api.Errno) {
	t.Helper()
	if err != wantErr || !reflect.DeepEqual(got, want) {
		t.Errorf("%s: %v, error %d, want %v, error %d", name, got, err, want, wantErr)
	}
}

// two is the bay of the examples: water and land in one row.
func two() api.Bay {
	return api.Bay{W: 2, H: 1, Land: []bool{false, true}, Share: [][5]int{{8, 4, 4, 0, 0}, {}}}
}

// row returns a bay of one row; cells without shares are land.
func row(share ...[5]int) api.Bay {
	b := api.Bay{W: len(share), H: 1, Share: share}
	for _, s := range share {
		b.Land = append(b.Land, s == [5]int{})
	}
	return b
}

// field returns a bay of water all of whose oil goes the same way.
func field(w, h int, share [5]int) api.Bay {
	b := api.Bay{W: w, H: h, Land: make([]bool, w*h)}
	for range w * h {
		b.Share = append(b.Share, share)
	}
	return b
}

// power is 16 to the power of n.
func power(n int) int {
	return 1 << (4 * n)
}

// bays returns bays of all kinds, the same ones for every test.
func bays() []api.Bay {
	l := []api.Bay{
		two(), row([5]int{}), row([5]int{16}), row([5]int{0, 4, 4, 4, 4}), row([5]int{}, [5]int{0, 0, 8, 0, 8}, [5]int{}),
		field(1, 6, [5]int{0, 0, 0, 16, 0}), field(6, 1, [5]int{0, 0, 0, 0, 16}), field(6, 6, [5]int{4, 3, 3, 3, 3}), field(6, 6, [5]int{0, 16, 0, 0, 0}),
	}
	source := rand.New(rand.NewPCG(3, 4))
	for range 60 {
		b := api.Bay{W: 1 + source.IntN(api.MaxSide), H: 1 + source.IntN(api.MaxSide)}
		land := 1 + source.IntN(5)
		for range b.W * b.H {
			b.Land = append(b.Land, source.IntN(6) < land)
			var share [5]int
			for range 16 {
				// Two of the five draws lead the same way, so that some shares are 0 now and then.
				share[[]int{0, 1, 2, 3, 4, source.IntN(5), 2, 4}[source.IntN(8)]]++
			}
			if b.Land[len(b.Land)-1] {
				share = [5]int{}
			} else if source.IntN(3) == 0 {
				share = [5]int{}
				share[source.IntN(5)] = 16
			}
			b.Share = append(b.Share, share)
		}
		l = append(l, b)
	}
	return l
}

// slicks returns slicks for a bay, the same ones for every test.
func slicks(b api.Bay) []api.Slick {
	cells := len(b.Land)
	most := 36 * api.MaxOil
	l := []api.Slick{{Oil: make([]int, cells)}, {K: 3, Oil: make([]int, cells), Away: most * power(3)}}
	source := rand.New(rand.NewPCG(5, uint64(cells)))
	for k := range api.MaxMoves + 1 {
		s := api.Slick{K: k, Oil: make([]int, cells), Away: source.IntN(100)}
		for cell := range s.Oil {
			s.Oil[cell] = source.IntN(500 * power(k))
		}
		full := api.Slick{K: k, Oil: make([]int, cells)}
		full.Oil[source.IntN(cells)] = most * power(k)
		l = append(l, s, full)
	}
	return l
}

// prices returns prices for a bay, the same ones for every test.
func prices(b api.Bay) [][]int {
	n := len(b.Land) + 1
	source := rand.New(rand.NewPCG(7, uint64(n)))
	low, high, mixed := make([]int, n), make([]int, n), make([]int, n)
	for i := range n {
		high[i] = api.MaxPrice
		mixed[i] = source.IntN(api.MaxPrice + 1)
	}
	return [][]int{low, high, mixed}
}

// pairs calls f for each bay with each of its slicks.
func pairs(f func(b api.Bay, s api.Slick)) {
	for _, b := range bays() {
		for _, s := range slicks(b) {
			f(b, s)
		}
	}
}

// plainNext is the index of the cell in a direction, or -1 where there is none.
func plainNext(b api.Bay, cell, way int) int {
	x, y := cell%b.W, cell/b.W
	switch way {
	case 1:
		y--
	case 2:
		x++
	case 3:
		y++
	case 4:
		x--
	}
	if x < 0 || y < 0 || x == b.W || y == b.H {
		return -1
	}
	return y*b.W + x
}

// plainMove is a move as the chapter's terms describe it, from the sight of each cell that gets oil.
func plainMove(b api.Bay, s api.Slick) api.Slick {
	m := api.Slick{K: s.K + 1, Oil: make([]int, len(s.Oil)), Away: 16 * s.Away}
	for to := range s.Oil {
		if b.Land[to] {
			m.Oil[to] = 16 * s.Oil[to]
		}
		for from := range s.Oil {
			for way := range 5 {
				if plainNext(b, from, way) == to {
					m.Oil[to] += b.Share[from][way] * s.Oil[from]
				}
			}
		}
	}
	for from := range s.Oil {
		for way := range 5 {
			if plainNext(b, from, way) == -1 {
				m.Away += b.Share[from][way] * s.Oil[from]
			}
		}
	}
	return m
}

func plainAfter(b api.Bay, s api.Slick, n int) api.Slick {
	for range n {
		s = plainMove(b, s)
	}
	return s
}

// alone is a single part of oil in a cell.
func alone(b api.Bay, cell int) api.Slick {
	s := api.Slick{Oil: make([]int, len(b.Land))}
	s.Oil[cell] = 1
	return s
}

func plainCost(s api.Slick, p []int) int {
	cost := s.Away * p[len(p)-1]
	for cell, amount := range s.Oil {
		cost += amount * p[cell]
	}
	return cost
}

// badBays are not valid.
func badBays() []api.Bay {
	good := two()
	long := append([]bool{false, true}, true)
	return []api.Bay{
		{}, {W: 0, H: 1}, {W: 1, H: 0}, {W: -1, H: -2, Land: good.Land, Share: good.Share}, {W: math.MaxInt, H: math.MaxInt}, {W: math.MinInt, H: 2, Land: good.Land, Share: good.Share},
		field(api.MaxSide+1, 1, [5]int{16}), field(1, api.MaxSide+1, [5]int{16}),
		{W: 2, H: 1, Share: good.Share}, {W: 2, H: 1, Land: good.Land}, {W: 2, H: 1, Land: long, Share: good.Share}, {W: 2, H: 1, Land: good.Land, Share: append([][5]int{}, good.Share[0], [5]int{}, [5]int{})},
		{W: 2, H: 1, Land: good.Land[:1], Share: good.Share[:1]}, {W: 1, H: 1, Land: good.Land, Share: good.Share}, {W: 2, H: 2, Land: good.Land, Share: good.Share},
		row([5]int{8, 4, 4, 0, 1}), row([5]int{8, 4, 3, 0, 0}), row([5]int{17, -1, 0, 0, 0}), row([5]int{-1, 0, 0, 0, 17}), row([5]int{8, 9, -1, 0, 0}), row([5]int{math.MaxInt, math.MaxInt, 18, 0, 0}),
		{W: 1, H: 1, Land: []bool{false}, Share: [][5]int{{}}}, {W: 2, H: 1, Land: good.Land, Share: [][5]int{{16}, {16}}}, {W: 2, H: 1, Land: good.Land, Share: [][5]int{{16}, {0, 0, 0, 0, 1}}}, {W: 2, H: 1, Land: good.Land, Share: [][5]int{{16}, {1, -1}}},
	}
}

// badSlicks are none for the bay two.
func badSlicks() []api.Slick {
	return []api.Slick{
		{}, {Oil: []int{}}, {Oil: []int{1}}, {Oil: []int{1, 1, 1}}, {K: -1, Oil: []int{0, 0}}, {K: api.MaxMoves + 1, Oil: []int{0, 0}}, {K: math.MaxInt, Oil: []int{0, 0}}, {K: math.MinInt, Oil: []int{0, 0}},
		{Oil: []int{-1, 5}}, {Oil: []int{5, -1}}, {Oil: []int{5, 5}, Away: -1}, {Oil: []int{36001, 0}}, {Oil: []int{36000, 1}}, {Oil: []int{36000, 0}, Away: 1}, {Oil: []int{0, 0}, Away: 36001}, {Oil: []int{36000, 2}, Away: -2},
		{K: 5, Oil: []int{36000 * power(5), 1}}, {K: 2, Oil: []int{12000 * power(2), 12000 * power(2)}, Away: 12000*power(2) + 1}, {Oil: []int{math.MaxInt, math.MaxInt}, Away: 2}, {Oil: []int{math.MinInt, math.MinInt}},
	}
}

// P2.2.
func TestValid(t *testing.T) {
	for i, b := range bays() {
		if !slick.Valid(b) {
			t.Errorf("bay %d is valid", i)
		}
	}
	for i, b := range badBays() {
		if slick.Valid(b) {
			t.Errorf("bad bay %d is not valid", i)
		}
	}
}

// P2.2.
func TestFits(t *testing.T) {
	pairs(func(b api.Bay, s api.Slick) {
		fits, err := slick.Fits(b, s)
		check(t, "Fits", fits, err, true, api.OK)
	})
	for _, s := range []api.Slick{{Oil: []int{36000, 0}}, {Oil: []int{0, 36000}}, {Oil: []int{0, 0}, Away: 36000}, {K: 5, Oil: []int{12000 * power(5), 12000 * power(5)}, Away: 12000 * power(5)}} {
		fits, err := slick.Fits(two(), s)
		check(t, "Fits", fits, err, true, api.OK)
	}
	for _, s := range badSlicks() {
		fits, err := slick.Fits(two(), s)
		check(t, "Fits", fits, err, false, api.OK)
	}
}

// P2.2: what one cell gives to each side, and what leaves the bay on every side.
func TestMove(t *testing.T) {
	middle := field(3, 3, [5]int{16})
	middle.Share[4] = [5]int{5, 1, 2, 3, 5}
	s := api.Slick{Oil: []int{0, 0, 0, 0, 10, 0, 0, 0, 0}}
	m, err := slick.Move(middle, s)
	check(t, "Move", m, err, api.Slick{K: 1, Oil: []int{0, 10, 0, 50, 50, 20, 0, 30, 0}}, api.OK)
	for way := 1; way < 5; way++ {
		var share [5]int
		share[0], share[way] = 9, 7
		m, err = slick.Move(row(share), api.Slick{K: 4, Oil: []int{3}, Away: 2})
		check(t, "Move", m, err, api.Slick{K: 5, Oil: []int{27}, Away: 53}, api.OK)
	}
	m, err = slick.Move(row([5]int{0, 4, 4, 4, 4}), api.Slick{Oil: []int{7}, Away: 1})
	check(t, "Move", m, err, api.Slick{K: 1, Oil: []int{0}, Away: 128}, api.OK)
	m, err = slick.Move(row([5]int{}), api.Slick{Oil: []int{7}})
	check(t, "Move", m, err, api.Slick{K: 1, Oil: []int{112}}, api.OK)
	m, err = slick.Move(row([5]int{16}), api.Slick{K: 5, Oil: []int{7}})
	check(t, "Move", m, err, api.Slick{}, api.ErrLimit)
	m, err = slick.Move(two(), api.Slick{Oil: []int{100, 0}})
	check(t, "Move", m, err, api.Slick{K: 1, Oil: []int{800, 400}, Away: 400}, api.OK)
}

// P2.2.
func TestAfter(t *testing.T) {
	pairs(func(b api.Bay, s api.Slick) {
		for n := range api.MaxMoves + 1 {
			a, err := slick.After(b, s, n)
			if s.K+n > api.MaxMoves {
				check(t, "After", a, err, api.Slick{}, api.ErrLimit)
				continue
			}
			check(t, "After", a, err, plainAfter(b, s, n), api.OK)
		}
		if s.K < api.MaxMoves {
			m, err := slick.Move(b, s)
			check(t, "Move", m, err, plainMove(b, s), api.OK)
		}
	})
}

// P2.3.
func TestAmounts(t *testing.T) {
	pairs(func(b api.Bay, s api.Slick) {
		total, afloat, beached := s.Away, 0, make([]int, len(s.Oil))
		for cell, amount := range s.Oil {
			total += amount
			if b.Land[cell] {
				beached[cell] = amount
			} else {
				afloat += amount
			}
		}
		n, err := slick.Total(b, s)
		check(t, "Total", n, err, total, api.OK)
		n, err = slick.Afloat(b, s)
		check(t, "Afloat", n, err, afloat, api.OK)
		l, err := slick.Beached(b, s)
		check(t, "Beached", l, err, beached, api.OK)
	})
}

// P2.3.
func TestCost(t *testing.T) {
	pairs(func(b api.Bay, s api.Slick) {
		for _, p := range prices(b) {
			c, err := slick.Cost(b, s, p)
			check(t, "Cost", c, err, plainCost(s, p), api.OK)
		}
	})
	c, err := slick.Cost(two(), api.Slick{K: 5, Oil: []int{36000 * power(5), 0}}, []int{1000, 0, 0})
	check(t, "Cost", c, err, 36000*1000*power(5), api.OK)
}

// P2.4: what a part of oil costs behind the moves is the cost of the slick it becomes.
func TestBefore(t *testing.T) {
	for _, b := range bays() {
		for _, p := range prices(b) {
			for n := range api.MaxMoves + 1 {
				var want []int
				for cell := range b.Land {
					want = append(want, plainCost(plainAfter(b, alone(b, cell), n), p))
				}
				want = append(want, p[len(p)-1]*power(n))
				got, err := slick.Before(b, p, n)
				check(t, "Before", got, err, want, api.OK)
			}
		}
	}
	p, err := slick.Before(two(), []int{0, 10, 2}, 1)
	check(t, "Before", p, err, []int{48, 160, 32}, api.OK)
	p, err = slick.Before(two(), []int{0, 10, 2}, 0)
	check(t, "Before", p, err, []int{0, 10, 2}, api.OK)
}
