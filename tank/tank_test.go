package tank_test

import (
	"math"
	"math/rand/v2"
	"slices"
	"testing"

	"skimmer/api"
	"skimmer/tank"
)

// badTanks are not valid.
func badTanks() [][]int {
	return [][]int{
		nil, {}, {1}, {12}, {0}, {1, 2, 3, 4, 5}, {12, 12, 12, 12, 12}, make([]int, 1000), slices.Repeat([]int{3}, 1000),
		{0, 3}, {3, 0}, {0, 0}, {13, 3}, {3, 13}, {-1, 3}, {3, -1}, {3, 5, 0}, {3, 13, 5}, {3, 5, 4, -3}, {3, 5, 4, 13},
		{math.MaxInt, 3}, {3, math.MinInt}, {3, 1<<32 + 5},
	}
}

// P4.2.
func TestValid(t *testing.T) {
	for _, c := range slices.Concat(few(), many(), [][]int{{1, 1}, {12, 12}, {1, 12, 1}, {12, 1, 12, 1}}) {
		if !tank.Valid(c) {
			t.Errorf("%v are valid", c)
		}
	}
	for _, c := range badTanks() {
		if tank.Valid(c) {
			t.Errorf("%v are not valid", c)
		}
	}
}

// P4.2: each deed, and all that is nearly one, from all levels.
func TestDoes(t *testing.T) {
	for _, c := range few() {
		for _, levels := range modelOf(c).levels {
			for _, d := range triples(len(c)) {
				got, err := tank.Does(c, levels, d)
				if plainIsDeed(c, d) {
					checkList(t, "Does", got, err, plainDoes(c, levels, d), api.OK)
				} else {
					checkList(t, "Does", got, err, nil, api.ErrArg)
				}
			}
		}
	}
}

// P4.2: a pour ends when the one is empty or the other one full, and deeds that change nothing are some too.
func TestDoesKinds(t *testing.T) {
	c := []int{3, 5, 1, 12}
	for _, x := range []struct {
		levels []int
		d      api.Deed
		want   []int
	}{
		{[]int{2, 4, 1, 0}, fill(0), []int{3, 4, 1, 0}},
		{[]int{3, 4, 1, 0}, fill(0), []int{3, 4, 1, 0}},
		{[]int{2, 4, 1, 0}, fill(3), []int{2, 4, 1, 12}},
		{[]int{2, 4, 1, 0}, empty(2), []int{2, 4, 0, 0}},
		{[]int{2, 4, 1, 0}, empty(3), []int{2, 4, 1, 0}},
		{[]int{2, 4, 1, 0}, pour(0, 1), []int{1, 5, 1, 0}},
		{[]int{2, 4, 1, 0}, pour(1, 0), []int{3, 3, 1, 0}},
		{[]int{2, 4, 1, 0}, pour(1, 3), []int{2, 0, 1, 4}},
		{[]int{2, 4, 1, 0}, pour(1, 2), []int{2, 4, 1, 0}},
		{[]int{2, 4, 1, 0}, pour(3, 0), []int{2, 4, 1, 0}},
		{[]int{0, 4, 0, 12}, pour(3, 2), []int{0, 4, 1, 11}},
	} {
		got, err := tank.Does(c, x.levels, x.d)
		checkList(t, "Does", got, err, x.want, api.OK)
	}
}

// someDeeds returns deeds with tanks, of any kinds.
func someDeeds(source *rand.Rand, m model, n int) []api.Deed {
	var l []api.Deed
	for range n {
		l = append(l, m.deeds[source.IntN(len(m.deeds))])
	}
	return l
}

// P4.2, P4.8: up to 200 deeds; what is in the tanks behind them is what was there, and in, less out.
func TestAfterAndWater(t *testing.T) {
	source := rand.New(rand.NewPCG(4, 2))
	for _, c := range few() {
		m := modelOf(c)
		for _, n := range []int{0, 1, 2, 3, 5, 20, 199, api.MaxPours} {
			from := m.levels[source.IntN(len(m.levels))]
			l := someDeeds(source, m, n)
			now, in, out := from, 0, 0
			for _, d := range l {
				next := plainDoes(c, now, d)
				if d.Do == api.DoFill {
					in += next[d.To] - now[d.To]
				}
				if d.Do == api.DoEmpty {
					out += now[d.To]
				}
				now = next
			}
			got, err := tank.After(c, from, l)
			checkList(t, "After", got, err, now, api.OK)
			gotIn, gotOut, err := tank.Water(c, from, l)
			check(t, "Water", [2]int{gotIn, gotOut}, err, [2]int{in, out}, api.OK)
			if total(got) != total(from)+gotIn-gotOut {
				t.Errorf("%v from %v to %v: in %d, out %d", c, from, got, gotIn, gotOut)
			}
		}
	}
}

// P4.2.
func TestWater(t *testing.T) {
	c := []int{3, 5}
	for _, x := range []struct {
		levels  []int
		l       []api.Deed
		in, out int
	}{
		{[]int{2, 4}, nil, 0, 0},
		{[]int{2, 4}, []api.Deed{fill(0), fill(0)}, 1, 0},
		{[]int{2, 4}, []api.Deed{empty(1), empty(1)}, 0, 4},
		{[]int{2, 4}, []api.Deed{pour(0, 1), pour(1, 0)}, 0, 0},
		{[]int{2, 4}, []api.Deed{empty(0), fill(0), empty(0), fill(1)}, 4, 5},
		{[]int{0, 0}, []api.Deed{fill(1), pour(1, 0), empty(0), pour(1, 0), fill(1), pour(1, 0)}, 10, 3},
	} {
		in, out, err := tank.Water(c, x.levels, x.l)
		check(t, "Water", [2]int{in, out}, err, [2]int{x.in, x.out}, api.OK)
	}
	in, out, err := tank.Water([]int{12, 12}, []int{0, 12}, slices.Repeat([]api.Deed{fill(0), empty(0)}, 100))
	check(t, "Water", [2]int{in, out}, err, [2]int{1200, 1200}, api.OK)
}

// P4.3.
func TestMeasure(t *testing.T) {
	for _, c := range slices.Concat(few(), many()) {
		n, err := tank.Measure(c)
		check(t, "Measure", n, err, plainMeasure(c), api.OK)
	}
	for _, x := range [][]int{{2, 4, 6}, {3, 12, 9, 6}, {1, 5, 7}, {1, 6, 10, 3}, {1, 12, 9, 4, 8}, {1, 1, 12}, {12, 12, 12, 12, 12}, {4, 12, 8}} {
		n, err := tank.Measure(x[1:])
		check(t, "Measure", n, err, x[0], api.OK)
	}
}

// P4.3, P4.4: every amount in every tank, from 0 to one that no tank holds.
func TestDeeds(t *testing.T) {
	for _, c := range few() {
		m := modelOf(c)
		start := make([]int, len(c))
		for i := range c {
			for amount := range api.MaxHolds + 1 {
				far := m.far(has(i, amount))
				l, err := tank.Deeds(c, i, amount)
				n, err2 := tank.Least(c, i, amount)
				is, err3 := tank.Can(c, i, amount)
				if far[0] == -1 {
					checkList(t, "Deeds", l, err, nil, api.ErrNone)
					check(t, "Least", n, err2, 0, api.ErrNone)
					check(t, "Can", is, err3, false, api.OK)
					continue
				}
				checkList(t, "Deeds", l, err, m.fewest(start, far), api.OK)
				check(t, "Least", n, err2, far[0], api.OK)
				check(t, "Can", is, err3, true, api.OK)
			}
		}
	}
}

// P4.3, P4.4: the examples, and the edge cases.
func TestDeedsKinds(t *testing.T) {
	for _, x := range []struct {
		c            []int
		tank, amount int
		want         []api.Deed
		err          api.Errno
	}{
		{[]int{3, 5}, 1, 4, []api.Deed{fill(1), pour(1, 0), empty(0), pour(1, 0), fill(1), pour(1, 0)}, api.OK},
		{[]int{3, 5}, 0, 0, nil, api.OK},
		{[]int{12, 12, 12, 12}, 3, 0, nil, api.OK},
		{[]int{3, 5}, 0, 4, nil, api.ErrNone},
		{[]int{3, 5}, 0, 12, nil, api.ErrNone},
		{[]int{4, 6}, 1, 3, nil, api.ErrNone},
		{[]int{4, 6}, 1, 4, []api.Deed{fill(0), pour(0, 1)}, api.OK},
		{[]int{12, 12, 12, 12}, 3, 11, nil, api.ErrNone},
		{[]int{12, 12, 12, 12}, 3, 12, []api.Deed{fill(3)}, api.OK},
		// Of several fewest deeds the first ones.
		{[]int{2, 2, 4}, 2, 2, []api.Deed{fill(0), pour(0, 2)}, api.OK},
		{[]int{1, 2, 1}, 1, 1, []api.Deed{fill(0), pour(0, 1)}, api.OK},
		{[]int{4, 1, 1}, 0, 2, []api.Deed{fill(0), pour(0, 1), pour(0, 2)}, api.OK},
		{[]int{5, 5, 2}, 0, 3, []api.Deed{fill(0), pour(0, 2)}, api.OK},
		{[]int{3, 3, 5}, 2, 1, []api.Deed{fill(0), fill(1), pour(0, 2), pour(1, 2), empty(2), pour(1, 2)}, api.OK},
		{[]int{1, 1, 1, 12}, 3, 11, []api.Deed{fill(3), pour(3, 0)}, api.OK},
	} {
		l, err := tank.Deeds(x.c, x.tank, x.amount)
		checkList(t, "Deeds", l, err, x.want, x.err)
		n, err := tank.Least(x.c, x.tank, x.amount)
		check(t, "Least", n, err, len(x.want), x.err)
		is, err := tank.Can(x.c, x.tank, x.amount)
		check(t, "Can", is, err, x.err == api.OK, api.OK)
	}
}

// P4.4: from all levels to all.
func TestBetween(t *testing.T) {
	for _, c := range few() {
		m := modelOf(c)
		if len(m.levels) > 64 {
			continue
		}
		for _, to := range m.levels {
			far := m.far(func(l []int) bool { return slices.Equal(l, to) })
			for i, from := range m.levels {
				l, err := tank.Between(c, from, to)
				if far[i] == -1 {
					checkList(t, "Between", l, err, nil, api.ErrNone)
				} else {
					checkList(t, "Between", l, err, m.fewest(from, far), api.OK)
				}
			}
		}
	}
}

// P4.4: of more tanks, from some levels to some.
func TestBetweenSome(t *testing.T) {
	source := rand.New(rand.NewPCG(8, 1))
	for _, c := range few() {
		m := modelOf(c)
		for range 8 {
			// To levels that are drawn deeds seldom lead, so every other time they come from deeds.
			from, to := m.levels[source.IntN(len(m.levels))], m.levels[source.IntN(len(m.levels))]
			if source.IntN(2) == 0 {
				to = from
				for _, d := range someDeeds(source, m, 6) {
					to = plainDoes(c, to, d)
				}
			}
			far := m.far(func(l []int) bool { return slices.Equal(l, to) })
			l, err := tank.Between(c, from, to)
			if far[m.place(from)] == -1 {
				checkList(t, "Between", l, err, nil, api.ErrNone)
			} else {
				checkList(t, "Between", l, err, m.fewest(from, far), api.OK)
			}
		}
	}
}

// P4.4.
func TestBetweenKinds(t *testing.T) {
	for _, x := range []struct {
		c, from, to []int
		want        []api.Deed
		err         api.Errno
	}{
		{[]int{3, 5}, []int{2, 2}, []int{2, 2}, nil, api.OK},
		{[]int{3, 5}, []int{0, 0}, []int{0, 0}, nil, api.OK},
		{[]int{3, 5}, []int{3, 0}, []int{0, 3}, []api.Deed{pour(0, 1)}, api.OK},
		{[]int{3, 5}, []int{0, 0}, []int{1, 1}, nil, api.ErrNone},
		{[]int{3, 5}, []int{1, 2}, []int{2, 1}, nil, api.ErrNone},
		{[]int{3, 5}, []int{1, 1}, []int{0, 0}, []api.Deed{empty(0), empty(1)}, api.OK},
		{[]int{1, 1, 1, 1}, []int{1, 0, 0, 1}, []int{0, 1, 1, 0}, []api.Deed{pour(0, 1), pour(3, 2)}, api.OK},
		{[]int{3, 3}, []int{2, 0}, []int{0, 2}, []api.Deed{pour(0, 1)}, api.OK},
		// Of levels that do not come about one comes to others that do not.
		{[]int{3, 5}, []int{1, 1}, []int{0, 2}, []api.Deed{pour(0, 1)}, api.OK},
		{[]int{4, 6}, []int{1, 6}, []int{4, 3}, []api.Deed{pour(1, 0)}, api.OK},
		{[]int{4, 6}, []int{0, 6}, []int{4, 3}, nil, api.ErrNone},
	} {
		l, err := tank.Between(x.c, x.from, x.to)
		checkList(t, "Between", l, err, x.want, x.err)
	}
}

// P4.5.
func TestAll(t *testing.T) {
	for _, c := range few() {
		m := modelOf(c)
		want := m.all()
		all, err := tank.All(c)
		check(t, "All", all, err, want, api.OK)
		n, err := tank.Count(c)
		check(t, "Count", n, err, len(want), api.OK)
		for _, l := range m.levels {
			is, err := tank.Back(c, l)
			check(t, "Back", is, err, slices.ContainsFunc(want, func(other []int) bool { return slices.Equal(l, other) }), api.OK)
		}
	}
	all, err := tank.All([]int{2, 4})
	check(t, "All", all, err, [][]int{{0, 0}, {0, 2}, {0, 4}, {2, 0}, {2, 2}, {2, 4}}, api.OK)
	all, err = tank.All([]int{2, 3})
	check(t, "All", all, err, [][]int{{0, 0}, {0, 1}, {0, 2}, {0, 3}, {1, 0}, {1, 3}, {2, 0}, {2, 1}, {2, 2}, {2, 3}}, api.OK)
	for n, c := range map[int][]int{4: {12, 12}, 16: {12, 12, 12, 12}, 26: {1, 12}, 13054: {12, 12, 12, 11}} {
		got, err := tank.Count(c)
		check(t, "Count", got, err, n, api.OK)
	}
}

// P4.5.
func TestWays(t *testing.T) {
	for _, c := range few() {
		for _, levels := range modelOf(c).levels {
			var want []api.Deed
			for _, d := range triples(len(c)) {
				if plainIsDeed(c, d) && !slices.Equal(plainDoes(c, levels, d), levels) {
					want = append(want, d)
				}
			}
			l, err := tank.Ways(c, levels)
			checkList(t, "Ways", l, err, want, api.OK)
		}
	}
	for _, x := range []struct {
		c, levels []int
		want      []api.Deed
	}{
		{[]int{3, 5}, []int{0, 0}, []api.Deed{fill(0), fill(1)}},
		{[]int{3, 5}, []int{3, 5}, []api.Deed{empty(0), empty(1)}},
		{[]int{3, 5}, []int{0, 5}, []api.Deed{fill(0), empty(1), pour(1, 0)}},
		{[]int{3, 5}, []int{1, 1}, []api.Deed{fill(0), fill(1), empty(0), empty(1), pour(0, 1), pour(1, 0)}},
		{[]int{1, 1, 1}, []int{1, 0, 1}, []api.Deed{fill(1), empty(0), empty(2), pour(0, 1), pour(2, 1)}},
	} {
		l, err := tank.Ways(x.c, x.levels)
		checkList(t, "Ways", l, err, x.want, api.OK)
	}
}

// P4.6: all tanks and amounts.
func TestTwo(t *testing.T) {
	for a := range api.MaxHolds + 1 {
		for b := range api.MaxHolds + 1 {
			for amount := -1; amount <= api.MaxHolds+1; amount++ {
				l, err := tank.Two(a, b, amount)
				switch {
				case a == 0 || b == 0:
					checkList(t, "Two", l, err, nil, api.ErrTanks)
				case amount < 0 || amount > b:
					checkList(t, "Two", l, err, nil, api.ErrArg)
				case amount%plainMeasure([]int{a, b}) != 0:
					checkList(t, "Two", l, err, nil, api.ErrNone)
				default:
					checkList(t, "Two", l, err, plainTwo(a, b, amount), api.OK)
				}
			}
		}
	}
}

// P4.6.
func TestTwoKinds(t *testing.T) {
	for _, x := range []struct {
		a, b, amount int
		want         []api.Deed
	}{
		{3, 5, 4, []api.Deed{fill(0), pour(0, 1), fill(0), pour(0, 1), empty(1), pour(0, 1), fill(0), pour(0, 1)}},
		{3, 5, 0, nil},
		{12, 1, 0, nil},
		{3, 5, 5, []api.Deed{fill(0), pour(0, 1), fill(0), pour(0, 1)}},
		{5, 3, 2, []api.Deed{fill(0), pour(0, 1), empty(1), pour(0, 1)}},
		{12, 1, 1, []api.Deed{fill(0), pour(0, 1)}},
		{4, 4, 4, []api.Deed{fill(0), pour(0, 1)}},
		{1, 2, 2, []api.Deed{fill(0), pour(0, 1), fill(0), pour(0, 1)}},
		{7, 3, 2, []api.Deed{fill(0), pour(0, 1), empty(1), pour(0, 1), empty(1), pour(0, 1), fill(0), pour(0, 1), empty(1), pour(0, 1), empty(1), pour(0, 1)}},
	} {
		l, err := tank.Two(x.a, x.b, x.amount)
		checkList(t, "Two", l, err, x.want, api.OK)
	}
}
