package boom_test

import (
	"cmp"
	"math"
	"math/rand/v2"
	"slices"
	"testing"

	"skimmer/api"
	"skimmer/boom"
)

// badCharts are not valid.
func badCharts() []api.Chart {
	return []api.Chart{
		{}, {W: 1, H: 1}, {W: 1, H: 1, Costs: []int{}}, {W: 0, H: 1}, {W: 1, H: 0}, {W: 0, H: 0, Costs: []int{1}}, {W: -1, H: -1, Costs: []int{1}}, {W: -2, H: -2, Costs: make([]int, 4)},
		field(api.MaxChart+1, 1, 1), field(1, api.MaxChart+1, 1), field(11, 11, 0), {W: 2, H: 2, Costs: make([]int, 3)}, {W: 2, H: 2, Costs: make([]int, 5)}, {W: 10, H: 10, Costs: make([]int, 101)},
		read("101"), read("-2"), read("1 1 1/1 101 1"), read("0 0/0 -2"), {W: 1, H: 1, Costs: []int{math.MaxInt}}, {W: 1, H: 1, Costs: []int{math.MinInt}},
		{W: math.MaxInt, H: math.MaxInt, Costs: []int{1}}, {W: math.MinInt, H: math.MinInt}, {W: math.MinInt, H: 2}, {W: 1 << 32, H: 1 << 32},
	}
}

// P3.2.
func TestValid(t *testing.T) {
	for _, c := range append(all(), read("100 -1 0 1")) {
		if !boom.Valid(c) {
			t.Errorf("%v is valid", c)
		}
	}
	for _, c := range badCharts() {
		if boom.Valid(c) {
			t.Errorf("%v is not valid", c)
		}
	}
}

// shortLists calls f with each list of at most some cells of a chart or next to it.
func shortLists(c api.Chart, most int, f func(l []api.Cell)) {
	var try func(l []api.Cell)
	try = func(l []api.Cell) {
		f(l)
		if len(l) == most {
			return
		}
		for y := -1; y <= c.H; y++ {
			for x := -1; x <= c.W; x++ {
				try(append(l[:len(l):len(l)], api.Cell{X: x, Y: y}))
			}
		}
	}
	try(nil)
}

// P3.2: whatever list it is, of cells or of none.
func TestIsBarrier(t *testing.T) {
	for _, text := range []string{"1", "0", "2 3", "1 1/2 -1", "1 0/0 -1", "1 0/1 1", "-1/4/5", "4/0/5", "2 -1/-1 0/3 4"} {
		c := read(text)
		shortLists(c, 3, func(l []api.Cell) {
			is, err := boom.IsBarrier(c, l)
			check(t, "IsBarrier", is, err, plainIsBarrier(c, l), api.OK)
			price, err := boom.CostOf(c, l)
			if plainIsBarrier(c, l) {
				check(t, "CostOf", price, err, plainCost(c, l), api.OK)
			} else {
				check(t, "CostOf", price, err, 0, api.ErrNone)
			}
		})
	}
}

// P3.2: only the first cell is in the first row, and only the last one in the last row.
func TestIsBarrierRows(t *testing.T) {
	c := field(3, 3, 1)
	for _, l := range [][]api.Cell{cells(0, 0, 1, 0, 1, 1, 1, 2), cells(0, 0, 0, 1, 1, 0, 1, 1, 1, 2), cells(0, 0, 0, 1, 0, 2, 1, 2), cells(0, 0, 0, 1, 0, 2, 1, 1, 1, 2), cells(0, 2, 0, 1, 0, 0), cells(0, 1, 0, 2), cells(0, 0, 0, 1)} {
		is, err := boom.IsBarrier(c, l)
		check(t, "IsBarrier", is, err, false, api.OK)
	}
	for _, l := range [][]api.Cell{cells(0, 0, 1, 1, 2, 2), cells(0, 0, 0, 1, 1, 1, 2, 1, 2, 2)} {
		is, err := boom.IsBarrier(c, l)
		check(t, "IsBarrier", is, err, true, api.OK)
	}
}

// P3.2: all barriers, and each of them with two cells exchanged, one left out, one twice, or from the wrong side.
func TestIsBarrierAlmost(t *testing.T) {
	for _, c := range small() {
		for _, l := range barriers(c) {
			is, err := boom.IsBarrier(c, l)
			check(t, "IsBarrier", is, err, true, api.OK)
			price, err := boom.CostOf(c, l)
			check(t, "CostOf", price, err, plainCost(c, l), api.OK)
			for i := range l {
				exchanged, twice, turned := slices.Clone(l), slices.Insert(slices.Clone(l), i, l[i]), slices.Clone(l)
				exchanged[0], exchanged[i] = l[i], l[0]
				slices.Reverse(turned)
				for _, other := range [][]api.Cell{exchanged, twice, turned, slices.Delete(slices.Clone(l), i, i+1), append(slices.Clone(l), l[i])} {
					is, err = boom.IsBarrier(c, other)
					check(t, "IsBarrier", is, err, plainIsBarrier(c, other), api.OK)
				}
			}
		}
	}
}

// rows returns cells of a field of 10 rows, row by row from a first one, to the right and back.
func rows(first, n int) []api.Cell {
	var l []api.Cell
	for i := range n {
		row := make([]api.Cell, 10)
		for x := range row {
			row[x] = api.Cell{X: x, Y: first + i}
		}
		if i%2 == 1 {
			slices.Reverse(row)
		}
		l = append(l, row...)
	}
	return l
}

// P3.2, P3.5: lists up to 100 cells and of more.
func TestLongLists(t *testing.T) {
	c := field(10, 10, 100)
	l := slices.Concat(cells(0, 0), rows(1, 8), cells(0, 9))
	price, err := boom.CostOf(c, l)
	check(t, "CostOf the longest", price, err, 8200, api.OK)
	for _, long := range [][]api.Cell{rows(0, 10), append(rows(0, 10), rows(0, 10)...), slices.Repeat(l, 1000), append(slices.Clone(l), slices.Repeat(cells(0, 9), 19)...)} {
		is, err := boom.IsBarrier(c, long)
		check(t, "IsBarrier", is, err, false, api.OK)
		price, err = boom.CostOf(c, long)
		check(t, "CostOf", price, err, 0, api.ErrNone)
	}
	channel := rows(0, 10)
	for i, cell := range channel {
		channel[i] = api.Cell{X: cell.Y, Y: cell.X}
	}
	is, err := boom.IsChannel(c, nil, channel)
	check(t, "IsChannel of 100 cells", is, err, true, api.OK)
	for _, long := range [][]api.Cell{append(slices.Clone(channel), cells(9, 0)...), slices.Repeat(channel, 1000), append(slices.Clone(channel), cells(10, 0)...)} {
		is, err = boom.IsChannel(c, nil, long)
		check(t, "IsChannel", is, err, false, api.OK)
	}
}

// P3.2, P3.5: cells far from any chart.
func TestFarCells(t *testing.T) {
	c := field(2, 2, 1)
	for _, l := range [][]api.Cell{cells(math.MaxInt, math.MaxInt), cells(0, 0, math.MinInt, math.MinInt), cells(math.MinInt, 0, math.MaxInt, 1), cells(0, 0, 0, 1<<32+1), cells(0, 0, 1<<62, 1)} {
		is, err := boom.IsBarrier(c, l)
		check(t, "IsBarrier", is, err, false, api.OK)
		is, err = boom.IsChannel(c, nil, l)
		check(t, "IsChannel", is, err, false, api.OK)
		is, err = boom.Blocks(c, l)
		check(t, "Blocks", is, err, false, api.ErrArg)
	}
}

// P3.3.
func TestBarrier(t *testing.T) {
	for _, c := range small() {
		found := barriers(c)
		l, err := boom.Barrier(c)
		price, err2 := boom.Cheapest(c)
		if len(found) == 0 {
			checkList(t, "Barrier", l, err, nil, api.ErrNone)
			check(t, "Cheapest", price, err2, 0, api.ErrNone)
			continue
		}
		best := slices.MinFunc(found, func(a, b []api.Cell) int {
			return cmp.Or(cmp.Compare(plainCost(c, a), plainCost(c, b)), fewest(a, b))
		})
		checkList(t, "Barrier", l, err, best, api.OK)
		check(t, "Cheapest", price, err2, plainCost(c, best), api.OK)
	}
}

// P3.3: the examples, and barriers of several kinds.
func TestBarrierKinds(t *testing.T) {
	for _, c := range []struct {
		text    string
		barrier []api.Cell
		cost    int
		err     api.Errno
	}{
		{"5 0/0 3", cells(0, 0, 1, 1), 8, api.OK},
		{"0 0 0", nil, 0, api.ErrNone},
		{"3/0/3", nil, 0, api.ErrNone},
		{"7 6 6 7", cells(1, 0), 6, api.OK},
		{"1/2/3", cells(0, 0, 0, 1, 0, 2), 6, api.OK},
		{"4 -1 4 -1", cells(1, 0), 0, api.OK},
		{"-1 -1/-1 -1/-1 -1", cells(0, 0, 0, 1, 0, 2), 0, api.OK},
		{"0 2 0/2 0 2/0 2 0", cells(1, 0, 0, 1, 1, 2), 6, api.OK},
		{"1 0 2/-1 0 2/1 -1 0/0 2 0", cells(0, 0, 0, 1, 1, 2, 1, 3), 3, api.OK},
		// A cheaper one of more cells comes before one of fewer.
		{"9 0 0 0 1/9 0 1 1 0/9 1 0 0 0", cells(4, 0, 3, 1, 2, 1, 1, 2), 4, api.OK},
		// Of two that cost 4 the one of fewer cells comes first, though it begins further to the right; land counts as a cell too.
		{"1 0 0 0 2/0 1 1 0 1/0 0 0 1 9", cells(4, 0, 4, 1, 3, 2), 4, api.OK},
		{"-1 0 0 0 -1/0 -1 -1 0 -1/0 0 0 -1 0", cells(4, 0, 4, 1, 3, 2), 0, api.OK},
		{"-1 -1 3 0/-1 0 0 3/-1 -1 -1 0/0 0 -1 3", cells(0, 0, 0, 1, 1, 2, 2, 3), 0, api.OK},
	} {
		x := read(c.text)
		l, err := boom.Barrier(x)
		checkList(t, "Barrier of "+c.text, l, err, c.barrier, c.err)
		price, err := boom.Cheapest(x)
		check(t, "Cheapest of "+c.text, price, err, c.cost, c.err)
	}
	for text, want := range map[string]int{"100": 3800, "-1": 0, "1": 38} {
		price, err := boom.Cheapest(snake(text))
		check(t, "Cheapest", price, err, want, api.OK)
		l, err := boom.Barrier(snake(text))
		check(t, "Barrier of a snake", len(l), err, 38, api.OK)
	}
}

// P3.4.
func TestHeights(t *testing.T) {
	for _, c := range all() {
		heights, err := boom.Heights(c)
		check(t, "Heights", heights, err, plainHeights(c), api.OK)
	}
	for text, want := range map[string][]int{
		"9 0 1/0 1 0/1 0 7":  {9, 0, 1, 0, 2, 0, 3, 0, 9},
		"0 5/0 0/4 -1":       {0, 5, 0, 0, 1000000, 1000000},
		"-1 3 -1 50":         {0, 3, 0, 50},
		"-1 0 7/9 0 7/0 0 8": {0, 0, 7, 9, 0, 14, 0, 0, 22},
	} {
		heights, err := boom.Heights(read(text))
		check(t, "Heights", heights, err, want, api.OK)
	}
}

// P3.4: the greatest heights with one changed, and any heights.
func TestProves(t *testing.T) {
	source := rand.New(rand.NewPCG(6, 7))
	numbers := []int{0, 1, 2, 3, 5, 100, 999999, 1000000}
	for _, c := range all() {
		for range 6 {
			heights := plainHeights(c)
			for range source.IntN(3) {
				i := source.IntN(len(heights))
				heights[i] = min(1000000, max(0, heights[i]+source.IntN(5)-2))
			}
			if source.IntN(4) == 0 {
				for i := range heights {
					heights[i] = source.IntN(4)
				}
			}
			for _, n := range append(numbers, slices.Min(heights), slices.Max(heights)) {
				is, err := boom.Proves(c, heights, n)
				check(t, "Proves", is, err, plainProves(c, heights, n), api.OK)
			}
		}
	}
	// Where no boom holds any height is right.
	is, err := boom.Proves(read("0 2/0 3"), []int{1000000, 2, 0, 5}, 5)
	check(t, "Proves", is, err, true, api.OK)
	is, err = boom.Proves(read("2 0/0 3"), []int{2, 0, 0, 6}, 0)
	check(t, "Proves past a corner", is, err, false, api.OK)
	is, err = boom.Proves(read("0 0"), []int{7, 7}, 1000000)
	check(t, "Proves without a barrier", is, err, true, api.OK)
}

// P3.5.
func TestIsChannel(t *testing.T) {
	for text, set := range map[string][]api.Cell{"0": nil, "-1": nil, "5": cells(0, 0), "0 7": nil, "0 3/4 0": cells(1, 0), "0/1": cells(0, 1), "0/2 ": nil, "0 -1/0 0": nil, "1 2 0": nil, "1 0 2": cells(0, 0, 2, 0)} {
		c := read(text)
		shortLists(c, 3, func(l []api.Cell) {
			is, err := boom.IsChannel(c, set, l)
			check(t, "IsChannel", is, err, plainIsChannel(c, set, l), api.OK)
		})
	}
	c := field(2, 2, 0)
	for _, l := range [][]api.Cell{cells(0, 0, 0, 1, 1, 1, 1, 0), cells(0, 1, 1, 1, 1, 0)} {
		is, err := boom.IsChannel(c, nil, l)
		check(t, "IsChannel along a side", is, err, true, api.OK)
	}
	is, err := boom.IsChannel(c, nil, cells(0, 0, 1, 1))
	check(t, "IsChannel by a corner", is, err, false, api.OK)
}

// P3.5.
func TestChannel(t *testing.T) {
	for _, c := range small() {
		for _, set := range sets(c) {
			l, err := boom.Channel(c, set)
			want := plainChannel(c, set)
			if want == nil {
				checkList(t, "Channel", l, err, nil, api.ErrNone)
			} else {
				checkList(t, "Channel", l, err, want, api.OK)
			}
		}
	}
}

// P3.5: of several shortest channels the first one, not the one that is straight, nor the one that ends first.
func TestChannelKinds(t *testing.T) {
	for _, c := range []struct {
		text    string
		set     []api.Cell
		channel []api.Cell
		err     api.Errno
	}{
		{"0 0 0", nil, cells(0, 0, 1, 0, 2, 0), api.OK},
		{"5 0/0 3", cells(0, 0, 1, 1), nil, api.ErrNone},
		{"0 9 0/0 0 0/9 0 0", cells(1, 0), cells(0, 1, 1, 1, 2, 1), api.OK},
		{"0 -1 0/0 0 0/-1 -1 0", nil, cells(0, 1, 1, 1, 2, 1), api.OK},
		{"-1 -1 0 0/0 0 0 -1/0 0 -1 -1/-1 0 0 0", nil, cells(0, 1, 1, 1, 2, 1, 2, 0, 3, 0), api.OK},
		{"-1/0/4", cells(0, 2), cells(0, 1), api.OK},
		{"-1/7/-1", cells(0, 1), nil, api.ErrNone},
		{"-1 -1/-1 -1", nil, nil, api.ErrNone},
		{"100 100/100 100", nil, cells(0, 0, 1, 0), api.OK},
		{"0 -1 0 0 0/0 -1 0 -1 0/0 0 0 -1 0", nil, cells(0, 2, 1, 2, 2, 2, 2, 1, 2, 0, 3, 0, 4, 0), api.OK},
	} {
		l, err := boom.Channel(read(c.text), c.set)
		checkList(t, "Channel of "+c.text, l, err, c.channel, c.err)
	}
}

// P3.5.
func TestFlooded(t *testing.T) {
	for _, c := range all() {
		full := where(c, booms)
		for _, set := range append(sets(c), drawn(full, 6)...) {
			l, err := boom.Flooded(c, set)
			checkList(t, "Flooded", l, err, plainFlooded(c, set), api.OK)
			is, err := boom.Blocks(c, set)
			check(t, "Blocks", is, err, plainBlocks(c, set), api.OK)
		}
	}
	l, err := boom.Flooded(read("0 0 -1 0/-1 3 0 4/0 5 -1 0"), cells(3, 1, 1, 2))
	checkList(t, "Flooded", l, err, cells(0, 0, 1, 0, 1, 1, 2, 1, 0, 2), api.OK)
	l, err = boom.Flooded(read("4 0/-1 0"), cells(0, 0))
	checkList(t, "Flooded from nowhere", l, err, nil, api.OK)
}

// P3.6: from the last boom on, each one is left out where the others block.
func TestThin(t *testing.T) {
	for _, c := range small() {
		for _, set := range sets(c) {
			l, err := boom.Thin(c, set)
			if !plainBlocks(c, set) {
				checkList(t, "Thin", l, err, nil, api.ErrNone)
				continue
			}
			want := slices.Clone(set)
			for i := len(set) - 1; i >= 0; i-- {
				others := slices.DeleteFunc(slices.Clone(want), func(cell api.Cell) bool { return cell == set[i] })
				if plainBlocks(c, others) {
					want = others
				}
			}
			checkList(t, "Thin", l, err, want, api.OK)
		}
	}
	l, err := boom.Thin(read("1 1/1 1"), cells(0, 0, 1, 0, 0, 1, 1, 1))
	checkList(t, "Thin", l, err, cells(0, 0, 0, 1), api.OK)
	l, err = boom.Thin(read("3 -1 4"), cells(0, 0, 2, 0))
	checkList(t, "Thin past land", l, err, nil, api.OK)
}

// P3.6.
func TestDry(t *testing.T) {
	for _, c := range all() {
		for _, set := range drawn(where(c, booms), 5) {
			want := api.Chart{W: c.W, H: c.H, Costs: slices.Clone(c.Costs)}
			for _, cell := range set {
				want.Costs[cell.Y*c.W+cell.X] = -1
			}
			dry, err := boom.Dry(c, set)
			check(t, "Dry", dry, err, want, api.OK)
		}
	}
}

// P3.7.
func TestTurned(t *testing.T) {
	for _, c := range all() {
		want := api.Chart{W: c.W, H: c.H}
		for y := c.H - 1; y >= 0; y-- {
			want.Costs = append(want.Costs, c.Costs[y*c.W:(y+1)*c.W]...)
		}
		turned, err := boom.Turned(c)
		check(t, "Turned", turned, err, want, api.OK)
	}
	turned, err := boom.Turned(read("1 2 3/-1 0 4"))
	check(t, "Turned", turned, err, read("-1 0 4/1 2 3"), api.OK)
}

// P3.7.
func TestStrong(t *testing.T) {
	for _, c := range all() {
		for _, most := range []int{0, 1, 2, 5, 19, 20, 99, 100} {
			want := api.Chart{W: c.W, H: c.H, Costs: slices.Clone(c.Costs)}
			for i, cost := range c.Costs {
				if cost > most {
					want.Costs[i] = 0
				}
			}
			strong, err := boom.Strong(c, most)
			check(t, "Strong", strong, err, want, api.OK)
		}
	}
	strong, err := boom.Strong(read("100 99 -1 0"), 99)
	check(t, "Strong", strong, err, read("0 99 -1 0"), api.OK)
}
