package boom_test

import (
	"math"
	"reflect"
	"slices"
	"testing"

	"skimmer/api"
	"skimmer/boom"
)

// call is a call of a function with whatever arguments: its name, the error and whether the result is its zero value.
type call struct {
	name string
	err  api.Errno
	zero bool
}

func called[R any](name string, got R, err api.Errno) call {
	v := reflect.ValueOf(got)
	return call{name, err, v.IsZero() || v.Kind() == reflect.Slice && v.Len() == 0}
}

// arguments of all functions together.
type arguments struct {
	c       api.Chart
	l       []api.Cell
	booms   []api.Cell
	heights []int
	n, most int
}

// plain calls the functions that take a chart and at most a list of cells that may be any.
func (a arguments) plain() []call {
	is, err := boom.IsBarrier(a.c, a.l)
	calls := []call{called("IsBarrier", is, err)}
	price, err := boom.CostOf(a.c, a.l)
	calls = append(calls, called("CostOf", price, err))
	price, err = boom.Cheapest(a.c)
	calls = append(calls, called("Cheapest", price, err))
	l, err := boom.Barrier(a.c)
	calls = append(calls, called("Barrier", l, err))
	heights, err := boom.Heights(a.c)
	calls = append(calls, called("Heights", heights, err))
	c, err := boom.Turned(a.c)
	return append(calls, called("Turned", c, err))
}

// withBooms calls the functions that take a set of booms.
func (a arguments) withBooms() []call {
	is, err := boom.IsChannel(a.c, a.booms, a.l)
	calls := []call{called("IsChannel", is, err)}
	l, err := boom.Channel(a.c, a.booms)
	calls = append(calls, called("Channel", l, err))
	is, err = boom.Blocks(a.c, a.booms)
	calls = append(calls, called("Blocks", is, err))
	l, err = boom.Thin(a.c, a.booms)
	calls = append(calls, called("Thin", l, err))
	c, err := boom.Dry(a.c, a.booms)
	calls = append(calls, called("Dry", c, err))
	l, err = boom.Flooded(a.c, a.booms)
	return append(calls, called("Flooded", l, err))
}

// withNumbers calls the functions that take numbers.
func (a arguments) withNumbers() []call {
	is, err := boom.Proves(a.c, a.heights, a.n)
	c, err2 := boom.Strong(a.c, a.most)
	return []call{called("Proves", is, err), called("Strong", c, err2)}
}

func checkCalls(t *testing.T, calls []call, a arguments, want api.Errno) {
	t.Helper()
	for _, c := range calls {
		if c.err != want || !c.zero {
			t.Errorf("%s of %v: error %d, want %d, and the zero value: %v", c.name, a, c.err, want, c.zero)
		}
	}
}

// badSets are no sets of booms for the chart of basin.
func badSets() [][]api.Cell {
	return [][]api.Cell{
		cells(0, 0), cells(2, 1), cells(1, 0, 2, 1), cells(0, 1, 1, 0), cells(1, 0, 1, 0), cells(2, 0, 1, 0), cells(1, 0, 2, 0, 2, 0), cells(1, 1, 1, 0),
		cells(3, 0), cells(-1, 1), cells(0, -1), cells(0, 2), cells(-2, 1), cells(1, 0, 2, 0, 0, 1, 1, 1, 0, 2), cells(4, -1), cells(math.MaxInt, math.MaxInt), cells(math.MinInt, math.MinInt), cells(1<<62, 0),
		slices.Repeat(cells(1, 0), 101), slices.Repeat(cells(1, 0, 2, 0, 0, 1, 1, 1), 30), make([]api.Cell, 100000),
	}
}

// basin has two rows: water, two booms, and two booms, land.
func basin() api.Chart {
	return read("0 1 100/3 4 -1")
}

// P3.1: a chart comes first, whatever else is wrong.
func TestErrChart(t *testing.T) {
	for _, c := range badCharts() {
		for _, a := range []arguments{
			{c: c}, {c: c, l: cells(-1, 9), booms: cells(-5, -5), heights: []int{-1}, n: -1, most: -1},
			{c: c, l: cells(0, 0), booms: cells(0, 0), heights: make([]int, len(c.Costs)), n: 1, most: 101},
		} {
			checkCalls(t, slices.Concat(a.plain(), a.withBooms(), a.withNumbers()), a, api.ErrChart)
		}
	}
}

// P3.1, P3.5, P3.6: booms that are no set come next, also where there is no channel, or where the set would not block.
func TestErrArgBooms(t *testing.T) {
	for _, set := range badSets() {
		for _, l := range [][]api.Cell{nil, cells(0, 0, 1, 0, 2, 0), cells(9, 9)} {
			a := arguments{c: basin(), booms: set, l: l}
			checkCalls(t, a.withBooms(), a, api.ErrArg)
		}
	}
	a := arguments{c: read("-1 -1/-1 -1"), booms: cells(0, 0)}
	checkCalls(t, a.withBooms(), a, api.ErrArg)
	a = arguments{c: field(10, 10, 1), booms: append(where(field(10, 10, 1), everywhere), cells(0, 10)...)}
	checkCalls(t, a.withBooms(), a, api.ErrArg)
	for _, set := range [][]api.Cell{nil, {}, cells(1, 0), cells(1, 0, 2, 0, 0, 1, 1, 1), cells(2, 0, 0, 1)} {
		is, err := boom.Blocks(basin(), set)
		check(t, "Blocks", is, err, plainBlocks(basin(), set), api.OK)
	}
	is, err := boom.Blocks(field(10, 10, 1), where(field(10, 10, 1), everywhere))
	check(t, "Blocks of 100 cells", is, err, true, api.OK)
}

// P3.1, P3.4, P3.7.
func TestErrArgNumbers(t *testing.T) {
	good := []int{0, 1, 2, 3, 4, 5}
	for _, a := range []arguments{
		{heights: good, n: -1, most: -1}, {heights: good, n: 1000001, most: 101}, {heights: good, n: math.MaxInt, most: math.MaxInt}, {heights: good, n: math.MinInt, most: math.MinInt},
		{most: -2}, {heights: []int{}, most: 102}, {heights: good[:5], most: 1000}, {heights: append(good[:6:6], 0), most: -100},
		{heights: []int{0, 1, 2, 3, 4, -1}, most: -1}, {heights: []int{1000001, 1, 2, 3, 4, 5}, most: -1}, {heights: []int{0, math.MaxInt, 2, 3, 4, 5}, most: -1}, {heights: []int{0, 1, 2, math.MinInt, 4, 5}, most: -1},
	} {
		a.c = basin()
		checkCalls(t, a.withNumbers(), a, api.ErrArg)
	}
	for _, n := range []int{0, 1000000} {
		is, err := boom.Proves(basin(), slices.Repeat([]int{1000000}, 6), n)
		check(t, "Proves at the limit", is, err, false, api.OK)
		is, err = boom.Proves(basin(), make([]int, 6), n)
		check(t, "Proves at the limit", is, err, n == 0, api.OK)
	}
}

// P3.1: ErrNone comes last.
func TestErrNone(t *testing.T) {
	c := read("3 0 4/0 0 0/5 0 6")
	a := arguments{c: c, l: cells(0, 0), booms: cells(0, 0, 2, 0)}
	calls := a.plain()
	checkCalls(t, calls[1:4], a, api.ErrNone)
	checkCalls(t, a.withBooms()[3:4], a, api.ErrNone)
	a = arguments{c: read("0 2 0/0 3 0"), booms: cells(1, 0, 1, 1)}
	checkCalls(t, a.withBooms()[1:2], a, api.ErrNone)
}

// R3, R4: no argument is changed or kept, and results are new memory.
func TestMemory(t *testing.T) {
	for _, c := range small() {
		set := where(c, booms)
		heights := plainHeights(c)
		fresh := func() arguments {
			copied := api.Chart{W: c.W, H: c.H, Costs: slices.Clone(c.Costs)}
			return arguments{c: copied, l: slices.Clone(set), booms: slices.Clone(set), heights: slices.Clone(heights), n: 1, most: 2}
		}
		a := fresh()
		a.plain()
		a.withBooms()
		a.withNumbers()
		if !reflect.DeepEqual(a, fresh()) {
			t.Errorf("an argument of %v is changed: %v", c, a)
		}
	}
}

// R4: what is done with a result changes neither an argument nor the next result.
func TestNewMemory(t *testing.T) {
	c, set := read("0 2 0/0 3 0"), cells(1, 0, 1, 1)
	for range 2 {
		thin, err := boom.Thin(c, set)
		checkList(t, "Thin", thin, err, cells(1, 0, 1, 1), api.OK)
		dry, err := boom.Dry(c, nil)
		check(t, "Dry", dry, err, read("0 2 0/0 3 0"), api.OK)
		strong, err := boom.Strong(c, 100)
		check(t, "Strong", strong, err, read("0 2 0/0 3 0"), api.OK)
		turned, err := boom.Turned(c)
		check(t, "Turned", turned, err, read("0 3 0/0 2 0"), api.OK)
		heights, err := boom.Heights(c)
		check(t, "Heights", heights, err, []int{0, 2, 0, 0, 5, 0}, api.OK)
		l, err := boom.Barrier(c)
		checkList(t, "Barrier", l, err, cells(1, 0, 1, 1), api.OK)
		thin[0].X, dry.Costs[0], strong.Costs[1], turned.Costs[1], heights[1], l[0].X = 7, 7, 7, 7, 7, 7
	}
	if !reflect.DeepEqual(c, read("0 2 0/0 3 0")) || !slices.Equal(set, cells(1, 0, 1, 1)) {
		t.Errorf("a result shares memory with an argument: %v, %v", c, set)
	}
}
