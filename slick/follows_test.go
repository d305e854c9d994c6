package slick_test

import (
	"reflect"
	"slices"
	"testing"

	"skimmer/api"
	"skimmer/slick"
)

// after is After where no error is looked for.
func after(t *testing.T, b api.Bay, s api.Slick, n int) api.Slick {
	t.Helper()
	x, err := slick.After(b, s, n)
	if err != api.OK {
		t.Fatalf("After: error %d", err)
	}
	return x
}

// before is Before where no error is looked for.
func before(t *testing.T, b api.Bay, p []int, n int) []int {
	t.Helper()
	x, err := slick.Before(b, p, n)
	if err != api.OK {
		t.Fatalf("Before: error %d", err)
	}
	return x
}

// P2.8.
func TestMass(t *testing.T) {
	pairs(func(b api.Bay, s api.Slick) {
		first, _ := slick.Total(b, s)
		old := s
		beached, _ := slick.Beached(b, s)
		for n := 1; n <= api.MaxMoves-s.K; n++ {
			x := after(t, b, s, n)
			total, err := slick.Total(b, x)
			check(t, "Total", total, err, first*power(n), api.OK)
			now, _ := slick.Beached(b, x)
			for cell := range now {
				if now[cell] < 16*beached[cell] {
					t.Errorf("less is beached in cell %d: %d after %d", cell, now[cell], beached[cell])
				}
			}
			if x.Away < 16*old.Away {
				t.Errorf("less is away: %d after %d", x.Away, old.Away)
			}
			old, beached = x, now
		}
	})
}

// P2.9.
func TestSums(t *testing.T) {
	for _, b := range bays() {
		half := func(k int) api.Slick {
			s := api.Slick{K: k, Oil: make([]int, len(b.Land)), Away: 7}
			for cell := range s.Oil {
				s.Oil[cell] = (cell*37 + k) % 400
			}
			return s
		}
		for n := range api.MaxMoves + 1 {
			s := half(0)
			u := api.Slick{Oil: slices.Repeat([]int{500}, len(b.Land)), Away: 1}
			sum, err := slick.Sum(b, s, u)
			if err != api.OK {
				t.Fatalf("Sum: error %d", err)
			}
			got, err := slick.Sum(b, after(t, b, s, n), after(t, b, u, n))
			check(t, "Sum of After", got, err, after(t, b, sum, n), api.OK)
		}
	}
}

// P2.10: the cost of a slick by prices before, which are above MaxPrice after all, is told here by its definition, where Cost takes no such prices.
func TestBothWays(t *testing.T) {
	pairs(func(b api.Bay, s api.Slick) {
		for _, p := range prices(b) {
			for n := range api.MaxMoves - s.K + 1 {
				earlier := before(t, b, p, n)
				cost, err := slick.Cost(b, after(t, b, s, n), p)
				check(t, "Cost of After", cost, err, plainCost(s, earlier), api.OK)
				if slices.Max(earlier) <= api.MaxPrice {
					cost, err = slick.Cost(b, s, earlier)
					check(t, "Cost by Before", cost, err, plainCost(s, earlier), api.OK)
				}
			}
		}
	})
}

// P2.10.
func TestBeforeStep(t *testing.T) {
	for _, b := range bays() {
		for _, p := range prices(b) {
			for n := range api.MaxMoves {
				later := before(t, b, p, n)
				want := make([]int, len(p))
				for place := range want {
					if place == len(b.Land) || b.Land[place] {
						want[place] = 16 * later[place]
						continue
					}
					for way := range 5 {
						to := plainNext(b, place, way)
						if to < 0 {
							to = len(b.Land)
						}
						want[place] += b.Share[place][way] * later[to]
					}
				}
				check(t, "Before", before(t, b, p, n+1), api.OK, want, api.OK)
			}
		}
		ones := slices.Repeat([]int{1}, len(b.Land)+1)
		for n := range api.MaxMoves + 1 {
			check(t, "Before of ones", before(t, b, ones, n), api.OK, slices.Repeat([]int{power(n)}, len(ones)), api.OK)
		}
	}
}

// P2.11.
func TestPlaces(t *testing.T) {
	for _, b := range bays() {
		for from, land := range b.Land {
			if land {
				continue
			}
			n := (from + 3) % (api.MaxMoves + 1)
			reach, err := slick.Reach(b, from, n)
			if err != api.OK || !slices.IsSorted(reach) || !slices.Contains(reach, from) {
				t.Errorf("Reach of %d: %v, error %d", from, reach, err)
			}
			for cell, amount := range after(t, b, alone(b, from), n).Oil {
				if amount > 0 && !slices.Contains(reach, cell) {
					t.Errorf("oil in %d is not in reach %v", cell, reach)
				}
			}
		}
	}
}

// mirrorSlick mirrors the oil of a slick left to right.
func mirrorSlick(b api.Bay, s api.Slick) api.Slick {
	m := api.Slick{K: s.K, Oil: make([]int, len(s.Oil)), Away: s.Away}
	for y := range b.H {
		for x := range b.W {
			m.Oil[y*b.W+b.W-1-x] = s.Oil[y*b.W+x]
		}
	}
	return m
}

// P2.11.
func TestMirrored(t *testing.T) {
	pairs(func(b api.Bay, s api.Slick) {
		m, err := slick.Mirror(b)
		if err != api.OK || !slick.Valid(m) {
			t.Fatalf("Mirror: %v, error %d", m, err)
		}
		twice, err := slick.Mirror(m)
		check(t, "Mirror twice", twice, err, b, api.OK)
		n := api.MaxMoves - s.K
		check(t, "After in the mirror", after(t, m, mirrorSlick(b, s), n), api.OK, mirrorSlick(b, after(t, b, s, n)), api.OK)
	})
}

// R4: no call changes its arguments, and no result shares their memory.
func TestMemory(t *testing.T) {
	b, s, p := two(), api.Slick{Oil: []int{3, 4}, Away: 5}, []int{1, 2, 3}
	a := after(t, b, s, 0)
	l := before(t, b, p, 0)
	m, _ := slick.Mirror(b)
	sum, _ := slick.Sum(b, s, api.Slick{Oil: []int{0, 0}})
	beached, _ := slick.Beached(b, s)
	check(t, "arguments", s, api.OK, api.Slick{Oil: []int{3, 4}, Away: 5}, api.OK)
	for _, list := range [][]int{a.Oil, l, sum.Oil, beached} {
		for i := range list {
			list[i] = 99
		}
	}
	m.Land[0], m.Land[1], m.Share[0], m.Share[1] = true, true, [5]int{1}, [5]int{2}
	if !reflect.DeepEqual(b, two()) || !slices.Equal(s.Oil, []int{3, 4}) || !slices.Equal(p, []int{1, 2, 3}) {
		t.Errorf("arguments have become %v, %v, %v", b, s, p)
	}
	s = api.Slick{Oil: append(make([]int, 0, 9), 3, 4), Away: 5}
	if after(t, b, s, 0); s.Oil[:3][2] != 0 {
		t.Errorf("a number was written behind the oil")
	}
}
