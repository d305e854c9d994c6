package tank_test

import (
	"math"
	"reflect"
	"slices"
	"testing"

	"skimmer/api"
	"skimmer/tank"
)

// call is a call of a function with whatever arguments: its name, the error and whether the result is its zero value.
type call struct {
	name string
	err  api.Errno
	zero bool
}

func called[R any](name string, got R, err api.Errno) call {
	v := reflect.ValueOf(got)
	return call{name, err, v.IsZero() || v.Kind() == reflect.Slice && v.Len() == 0}
}

// arguments of all functions together.
type arguments struct {
	c, levels, to []int
	l             []api.Deed
	d             api.Deed
	tank, amount  int
}

// withDeeds calls the functions that take levels and deeds.
func (a arguments) withDeeds() []call {
	one, err := tank.Does(a.c, a.levels, a.d)
	after, err2 := tank.After(a.c, a.levels, a.l)
	in, out, err3 := tank.Water(a.c, a.levels, a.l)
	return []call{called("Does", one, err), called("After", after, err2), called("Water", [2]int{in, out}, err3)}
}

// withLevels calls the functions that take levels alone.
func (a arguments) withLevels() []call {
	l, err := tank.Between(a.c, a.levels, a.to)
	other, err2 := tank.Between(a.c, a.to, a.levels)
	is, err3 := tank.Back(a.c, a.levels)
	ways, err4 := tank.Ways(a.c, a.levels)
	return []call{called("Between", l, err), called("Between", other, err2), called("Back", is, err3), called("Ways", ways, err4)}
}

// withAmount calls the functions that take an amount.
func (a arguments) withAmount() []call {
	is, err := tank.Can(a.c, a.tank, a.amount)
	n, err2 := tank.Least(a.c, a.tank, a.amount)
	l, err3 := tank.Deeds(a.c, a.tank, a.amount)
	return []call{called("Can", is, err), called("Least", n, err2), called("Deeds", l, err3)}
}

// alone calls the functions that take tanks alone.
func (a arguments) alone() []call {
	n, err := tank.Measure(a.c)
	all, err2 := tank.All(a.c)
	count, err3 := tank.Count(a.c)
	return []call{called("Measure", n, err), called("All", all, err2), called("Count", count, err3)}
}

func checkCalls(t *testing.T, calls []call, a arguments, want api.Errno) {
	t.Helper()
	for _, c := range calls {
		if c.err != want || !c.zero {
			t.Errorf("%s of %v: error %d, want %d, and the zero value: %v", c.name, a, c.err, want, c.zero)
		}
	}
}

// P4.1: tanks come first, whatever else is wrong.
func TestErrTanks(t *testing.T) {
	for _, c := range badTanks() {
		for _, a := range []arguments{
			{c: c},
			{c: c, levels: []int{-1}, to: []int{99}, l: []api.Deed{{}}, d: api.Deed{Do: 9}, tank: -1, amount: -1},
			{c: c, levels: c, to: c, l: slices.Repeat([]api.Deed{fill(0)}, 201), d: fill(0), tank: 0, amount: 13},
			{c: c, levels: make([]int, len(c)), to: make([]int, len(c)), l: []api.Deed{fill(0)}, d: fill(0), tank: 0, amount: 1},
		} {
			checkCalls(t, slices.Concat(a.withDeeds(), a.withLevels(), a.withAmount(), a.alone()), a, api.ErrTanks)
		}
	}
}

// P4.1: levels come next.
func TestErrLevels(t *testing.T) {
	for _, levels := range [][]int{
		nil, {}, {0}, {3}, {0, 0, 0}, {0, 0, 0, 0}, {4, 0}, {0, 6}, {5, 3}, {-1, 0}, {0, -1}, {13, 13}, make([]int, 1000),
		{math.MaxInt, 0}, {0, math.MinInt}, {1 << 32, 0},
	} {
		for _, a := range []arguments{
			{l: []api.Deed{fill(0)}, d: fill(0), to: []int{0, 0}},
			{l: []api.Deed{{}, fill(0)}, d: api.Deed{Do: 3}, to: []int{1, 1}},
			{l: slices.Repeat([]api.Deed{fill(0)}, 201), d: fill(2), to: levels},
			{to: []int{3, 5}},
		} {
			a.c, a.levels = []int{3, 5}, levels
			checkCalls(t, slices.Concat(a.withDeeds(), a.withLevels()), a, api.ErrLevels)
		}
	}
	for _, levels := range [][]int{{0, 0}, {3, 5}, {3, 0}, {0, 5}, {2, 4}} {
		got, err := tank.After([]int{3, 5}, levels, nil)
		checkList(t, "After", got, err, levels, api.OK)
	}
}

// badDeeds are no deeds with two tanks.
func badDeeds() []api.Deed {
	return []api.Deed{
		{}, {Do: 0, To: 1}, {Do: -1}, {Do: 4}, {Do: 4, From: 0, To: 1}, {Do: math.MaxInt}, {Do: math.MinInt, From: 0, To: 1},
		fill(-1), fill(2), fill(4), fill(math.MaxInt), fill(math.MinInt), {Do: 1, From: 1}, {Do: 1, From: -1}, {Do: 1, From: 1, To: 1}, {Do: 1, From: 2},
		empty(-1), empty(2), empty(math.MaxInt), empty(math.MinInt), {Do: 2, From: 1}, {Do: 2, From: -1, To: 1}, {Do: 2, From: math.MaxInt},
		pour(0, 0), pour(1, 1), pour(-1, -1), pour(2, 2), pour(0, 2), pour(2, 0), pour(-1, 0), pour(1, -1), pour(math.MinInt, 0), pour(0, math.MaxInt),
	}
}

// P4.1, P4.2: deeds that are none, wherever they are, and more of them than there may be.
func TestErrArgDeeds(t *testing.T) {
	good := []api.Deed{fill(0), pour(0, 1), empty(1)}
	a := arguments{c: []int{3, 5}, levels: []int{1, 1}}
	for _, a.d = range badDeeds() {
		for i := range len(good) + 1 {
			a.l = slices.Insert(slices.Clone(good), i, a.d)
			checkCalls(t, a.withDeeds(), a, api.ErrArg)
		}
	}
	for _, n := range []int{201, 202, 100000} {
		for _, a.l = range [][]api.Deed{slices.Repeat([]api.Deed{fill(0)}, n), slices.Repeat([]api.Deed{pour(0, 1)}, n), make([]api.Deed, n)} {
			checkCalls(t, a.withDeeds()[1:], a, api.ErrArg)
		}
	}
	a.l = slices.Repeat([]api.Deed{empty(1)}, 200)
	got, err := tank.After(a.c, a.levels, a.l)
	checkList(t, "After 200 deeds", got, err, []int{1, 0}, api.OK)
	in, out, err := tank.Water(a.c, a.levels, a.l)
	check(t, "Water of 200 deeds", [2]int{in, out}, err, [2]int{0, 1}, api.OK)
}

// P4.1, P4.3, P4.4: tanks that are none, and amounts that none can hold.
func TestErrArgAmount(t *testing.T) {
	for _, c := range [][]int{{3, 5}, {4, 6}, {12, 12, 12}, {1, 1, 1, 1}} {
		for _, i := range []int{-1, len(c), 4, 5, math.MaxInt, math.MinInt} {
			for _, amount := range []int{0, 1, 3, 12, 13, -1} {
				a := arguments{c: c, tank: i, amount: amount}
				checkCalls(t, a.withAmount(), a, api.ErrArg)
			}
		}
		for i := range c {
			for _, amount := range []int{-1, -3, 13, 100, math.MaxInt, math.MinInt} {
				a := arguments{c: c, tank: i, amount: amount}
				checkCalls(t, a.withAmount(), a, api.ErrArg)
			}
		}
	}
}

// P4.1, P4.4: ErrNone comes last.
func TestErrNone(t *testing.T) {
	for _, a := range []arguments{{c: []int{4, 6}, tank: 1, amount: 3}, {c: []int{4, 6}, tank: 0, amount: 6}, {c: []int{4, 6}, tank: 0, amount: 12}, {c: []int{6, 9, 12, 12}, tank: 3, amount: 11}} {
		calls := a.withAmount()
		checkCalls(t, calls[:1], a, api.OK)
		checkCalls(t, calls[1:], a, api.ErrNone)
	}
	a := arguments{c: []int{3, 5}, levels: []int{1, 1}, to: []int{2, 2}}
	checkCalls(t, a.withLevels()[:2], a, api.ErrNone)
}

// P4.6: the order of errors of Two.
func TestErrTwo(t *testing.T) {
	for _, x := range []struct {
		a, b, amount int
		err          api.Errno
	}{
		{0, 5, 1, api.ErrTanks}, {5, 0, 0, api.ErrTanks}, {13, 5, 6, api.ErrTanks}, {5, 13, -1, api.ErrTanks}, {-3, 3, 1, api.ErrTanks}, {0, 0, 0, api.ErrTanks},
		{math.MaxInt, 1, 0, api.ErrTanks}, {1, math.MinInt, 0, api.ErrTanks}, {math.MinInt, math.MaxInt, math.MinInt, api.ErrTanks},
		{3, 5, -1, api.ErrArg}, {3, 5, 6, api.ErrArg}, {5, 3, 4, api.ErrArg}, {4, 6, 7, api.ErrArg}, {4, 6, -1, api.ErrArg}, {12, 12, 13, api.ErrArg}, {3, 5, math.MinInt, api.ErrArg}, {3, 5, math.MaxInt, api.ErrArg},
		{4, 6, 3, api.ErrNone}, {4, 6, 1, api.ErrNone}, {12, 12, 6, api.ErrNone}, {9, 12, 11, api.ErrNone},
	} {
		l, err := tank.Two(x.a, x.b, x.amount)
		checkList(t, "Two", l, err, nil, x.err)
	}
}

// R3, R4: no argument is changed.
func TestMemory(t *testing.T) {
	fresh := func() arguments {
		return arguments{c: []int{4, 3, 5}, levels: []int{0, 3, 5}, to: []int{4, 0, 1}, l: []api.Deed{pour(2, 0), empty(1), fill(2)}, d: pour(1, 0), tank: 2, amount: 2}
	}
	a := fresh()
	for _, calls := range [][]call{a.withDeeds(), a.withLevels(), a.withAmount(), a.alone()} {
		checkNoErrors(t, calls)
	}
	if !reflect.DeepEqual(a, fresh()) {
		t.Errorf("an argument is changed: %v", a)
	}
}

func checkNoErrors(t *testing.T, calls []call) {
	t.Helper()
	for _, c := range calls {
		if c.err != api.OK {
			t.Errorf("%s: error %d", c.name, c.err)
		}
	}
}

// R4: lists are read up to their length alone, and what is behind it stays as it is.
func TestLength(t *testing.T) {
	c, levels, l := []int{3, 5, 99, 7}, []int{2, 4, -1, 9}, []api.Deed{fill(0), empty(1), {Do: 9}, {}}
	got, err := tank.After(c[:2], levels[:2], l[:2])
	checkList(t, "After", got, err, []int{3, 0}, api.OK)
	got = append(got, 5)
	got[0] = 0
	all, err := tank.All(c[:2])
	check(t, "All", len(all), err, 16, api.OK)
	n, err := tank.Measure(c[:2])
	check(t, "Measure", n, err, 1, api.OK)
	if !slices.Equal(c, []int{3, 5, 99, 7}) || !slices.Equal(levels, []int{2, 4, -1, 9}) || !slices.Equal(l, []api.Deed{fill(0), empty(1), {Do: 9}, {}}) {
		t.Errorf("an argument is changed: %v, %v, %v", c, levels, l)
	}
}

// R4: what is done with a result changes neither an argument nor the next result, nor other rows of All.
func TestNewMemory(t *testing.T) {
	c, levels := []int{3, 5}, []int{2, 4}
	for range 2 {
		after, err := tank.After(c, levels, nil)
		checkList(t, "After", after, err, []int{2, 4}, api.OK)
		does, err := tank.Does(c, levels, fill(0))
		checkList(t, "Does", does, err, []int{3, 4}, api.OK)
		all, err := tank.All(c)
		check(t, "All", len(all), err, 16, api.OK)
		want := slices.Clone(all[1])
		clear(all[0][:cap(all[0])])
		all[0] = append(append(all[0], 9), 9)
		checkList(t, "a row of All", all[1], api.OK, want, api.OK)
		l, err := tank.Deeds(c, 0, 3)
		checkList(t, "Deeds", l, err, []api.Deed{fill(0)}, api.OK)
		between, err := tank.Between(c, levels, []int{0, 4})
		checkList(t, "Between", between, err, []api.Deed{empty(0)}, api.OK)
		ways, err := tank.Ways(c, []int{0, 5})
		checkList(t, "Ways", ways, err, []api.Deed{fill(0), empty(1), pour(1, 0)}, api.OK)
		two, err := tank.Two(3, 5, 3)
		checkList(t, "Two", two, err, []api.Deed{fill(0), pour(0, 1)}, api.OK)
		after[0], does[0], l[0], between[0], ways[0], two[0] = 7, 7, api.Deed{}, api.Deed{}, api.Deed{}, api.Deed{}
		all[2][1], all[15][0] = 7, 7
	}
	if !slices.Equal(c, []int{3, 5}) || !slices.Equal(levels, []int{2, 4}) {
		t.Errorf("a result shares memory with an argument: %v, %v", c, levels)
	}
}
