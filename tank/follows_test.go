package tank_test

import (
	"math/rand/v2"
	"slices"
	"testing"

	"skimmer/api"
	"skimmer/tank"
)

// all is All where no error is looked for.
func all(t *testing.T, c []int) [][]int {
	t.Helper()
	l, err := tank.All(c)
	if err != api.OK {
		t.Fatalf("All(%v): error %d", c, err)
	}
	return l
}

// measure is Measure where no error is looked for.
func measure(t *testing.T, c []int) int {
	t.Helper()
	n, err := tank.Measure(c)
	if err != api.OK {
		t.Fatalf("Measure(%v): error %d", c, err)
	}
	return n
}

// P4.7: the measure divides all levels that come about, and an amount can be had exactly if the measure divides it and the tank holds it.
func TestMeasures(t *testing.T) {
	for _, c := range slices.Concat(few(), many()) {
		n := measure(t, c)
		for _, l := range all(t, c) {
			if slices.ContainsFunc(l, func(level int) bool { return level%n != 0 }) {
				t.Errorf("%v: %d does not divide %v", c, n, l)
			}
		}
		for i, holds := range c {
			for amount := range api.MaxHolds + 1 {
				is, err := tank.Can(c, i, amount)
				check(t, "Can", is, err, amount%n == 0 && amount <= holds, api.OK)
			}
		}
	}
}

// P4.8: deeds that measure; the tests of P4.2 have any deeds.
func TestWaterOfDeeds(t *testing.T) {
	for _, c := range slices.Concat(few(), many()) {
		start := make([]int, len(c))
		for i := range c {
			for amount := measure(t, c); amount <= c[i]; amount += measure(t, c) {
				l, err := tank.Deeds(c, i, amount)
				levels, err2 := tank.After(c, start, l)
				in, out, err3 := tank.Water(c, start, l)
				if err != api.OK || err2 != api.OK || err3 != api.OK || total(levels) != in-out {
					t.Errorf("%v: %v behind %v, in %d, out %d, errors %d, %d, %d", c, levels, l, in, out, err, err2, err3)
				}
			}
		}
	}
}

// P4.9: After of Deeds has the amount, there are Least of them, and fewer do not lead to it.
func TestFewest(t *testing.T) {
	for _, c := range slices.Concat(few(), many()) {
		start := make([]int, len(c))
		for i := range c {
			for amount := 0; amount <= c[i]; amount += measure(t, c) {
				l, err := tank.Deeds(c, i, amount)
				n, err2 := tank.Least(c, i, amount)
				if err != api.OK || err2 != api.OK || len(l) != n {
					t.Errorf("%v, %d in %d: %v, error %d, Least %d, error %d", c, amount, i, l, err, n, err2)
				}
				for j := range len(l) + 1 {
					levels, err := tank.After(c, start, l[:j])
					check(t, "has the amount", err == api.OK && levels[i] == amount, err, j == len(l), api.OK)
				}
			}
		}
	}
}

// P4.9: no deeds at all that are fewer lead there, and none that come first.
func TestNoFewer(t *testing.T) {
	for _, c := range [][]int{{3, 5}, {2, 3}, {1, 4}, {5, 2}, {2, 2, 3}, {1, 3, 2}} {
		start := make([]int, len(c))
		first := map[[2]int][]api.Deed{}
		var lists func(l []api.Deed, levels []int, more int)
		lists = func(l []api.Deed, levels []int, more int) {
			for i, level := range levels {
				key := [2]int{i, level}
				if old, ok := first[key]; !ok || len(l) < len(old) {
					first[key] = slices.Clone(l)
				}
			}
			if more == 0 {
				return
			}
			for _, d := range triples(len(c)) {
				if plainIsDeed(c, d) {
					lists(append(l, d), plainDoes(c, levels, d), more-1)
				}
			}
		}
		most := 6
		if len(c) > 2 {
			most = 4
		}
		lists(nil, start, most)
		for key, want := range first {
			l, err := tank.Deeds(c, key[0], key[1])
			checkList(t, "Deeds", l, err, want, api.OK)
		}
	}
}

// P4.9: After of Between is the other levels.
func TestAfterBetween(t *testing.T) {
	source := rand.New(rand.NewPCG(4, 9))
	for _, c := range slices.Concat(few(), many()) {
		l := all(t, c)
		for range 6 {
			from, to := make([]int, len(c)), l[source.IntN(len(l))]
			for i, holds := range c {
				from[i] = source.IntN(holds + 1)
			}
			deeds, err := tank.Between(c, from, to)
			if err != api.OK {
				t.Fatalf("%v from %v to %v: error %d", c, from, to, err)
			}
			got, err := tank.After(c, from, deeds)
			checkList(t, "After of Between", got, err, to, api.OK)
			for i := range deeds {
				got, err = tank.After(c, from, deeds[:i])
				if err != api.OK || slices.Equal(got, to) {
					t.Errorf("%v from %v to %v: %v are too many, error %d", c, from, to, deeds, err)
				}
			}
		}
	}
}

// P4.10: Back tells what All has, in order, and Count how many.
func TestAllAndBack(t *testing.T) {
	source := rand.New(rand.NewPCG(4, 10))
	for _, c := range slices.Concat(few(), many()) {
		l := all(t, c)
		n, err := tank.Count(c)
		check(t, "Count", n, err, len(l), api.OK)
		for i := range l[1:] {
			if slices.Compare(l[i], l[i+1]) >= 0 {
				t.Errorf("%v: %v in front of %v", c, l[i], l[i+1])
			}
		}
		for range 10 {
			levels := slices.Clone(l[source.IntN(len(l))])
			is, err := tank.Back(c, levels)
			check(t, "Back of All", is, err, true, api.OK)
			i := source.IntN(len(c))
			levels[i] = source.IntN(c[i] + 1)
			_, has := slices.BinarySearchFunc(l, levels, slices.Compare)
			is, err = tank.Back(c, levels)
			check(t, "Back", is, err, has, api.OK)
		}
	}
}

// P4.10: from levels that come about one comes back to empty tanks by few deeds, and some tank is empty or full.
func TestBackToEmpty(t *testing.T) {
	for _, c := range few() {
		for _, levels := range all(t, c) {
			l, err := tank.Between(c, levels, make([]int, len(c)))
			if err != api.OK || len(l) > len(c) {
				t.Errorf("%v from %v back: %v, error %d", c, levels, l, err)
			}
		}
	}
	for _, c := range slices.Concat(few(), many()) {
		for _, levels := range all(t, c) {
			edge := false
			for i, level := range levels {
				edge = edge || level == 0 || level == c[i]
			}
			if !edge {
				t.Errorf("%v: no tank of %v is empty or full", c, levels)
			}
		}
	}
}

// P4.11: After of Two has the amount in the tank 1, not before, and the tank 0 is filled at most b times.
func TestAfterTwo(t *testing.T) {
	found := 0
	for a := 1; a <= api.MaxHolds; a++ {
		for b := 1; b <= api.MaxHolds; b++ {
			for amount := range b + 1 {
				l, err := tank.Two(a, b, amount)
				if err == api.ErrNone && amount%measure(t, []int{a, b}) != 0 {
					continue
				}
				found++
				for i := range len(l) + 1 {
					levels, err := tank.After([]int{a, b}, []int{0, 0}, l[:i])
					check(t, "has the amount", err == api.OK && levels[1] == amount, err, i == len(l), api.OK)
				}
				fills := 0
				for _, d := range l {
					if d == fill(0) {
						fills++
					}
				}
				if err != api.OK || fills > b {
					t.Errorf("Two(%d, %d, %d): error %d, %d times filled", a, b, amount, err, fills)
				}
			}
		}
	}
	if found < 500 {
		t.Errorf("only %d amounts", found)
	}
}
