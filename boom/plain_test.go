package boom_test

import (
	"cmp"
	"math/rand/v2"
	"reflect"
	"slices"
	"strconv"
	"strings"
	"testing"

	"skimmer/api"
	"skimmer/boom"
)

// This file has what the other tests share: charts, and the chapter's terms told word by word, to compare with.

// check compares a result and its error with those wanted.
func check[R any](t *testing.T, name string, got R, err api.Errno, want R, wantErr api.Errno) {
	t.Helper()
	if err != wantErr || !reflect.DeepEqual(got, want) {
		t.Errorf("%s: %v, error %d, want %v, error %d", name, got, err, want, wantErr)
	}
}

// checkList is check for lists, where nil and empty are the same.
func checkList[R comparable](t *testing.T, name string, got []R, err api.Errno, want []R, wantErr api.Errno) {
	t.Helper()
	if err != wantErr || !slices.Equal(got, want) {
		t.Errorf("%s: %v, error %d, want %v, error %d", name, got, err, want, wantErr)
	}
}

// read returns a chart by its rows.
func read(text string) api.Chart {
	var c api.Chart
	for row := range strings.SplitSeq(text, "/") {
		words := strings.Fields(row)
		for _, word := range words {
			cost, err := strconv.Atoi(word)
			if err != nil {
				panic(err)
			}
			c.Costs = append(c.Costs, cost)
		}
		c.W = len(words)
		c.H++
	}
	return c
}

// cells returns cells by their coordinates.
func cells(coordinates ...int) []api.Cell {
	var l []api.Cell
	for pair := range slices.Chunk(coordinates, 2) {
		l = append(l, api.Cell{X: pair[0], Y: pair[1]})
	}
	return l
}

// field returns a chart all of whose cells are alike.
func field(w, h, cost int) api.Chart {
	return api.Chart{W: w, H: h, Costs: slices.Repeat([]int{cost}, w*h)}
}

// mixed returns a chart of costs drawn from some.
func mixed(source *rand.Rand, w, h int, costs ...int) api.Chart {
	c := api.Chart{W: w, H: h}
	for range w * h {
		c.Costs = append(c.Costs, costs[source.IntN(len(costs))])
	}
	return c
}

// small returns charts of at most 12 cells, the same ones for every test: few costs, so that many barriers cost the same.
func small() []api.Chart {
	l := []api.Chart{
		read("0"), read("-1"), read("7"), read("5 0/0 3"), read("0 0 0"), read("0 4 2"), read("4 -1 -1"), read("3/0/3"), read("3/-1/3"), read("0/0/0"), read("-1/-1/-1"),
		read("1 1/1 1"), read("9 0 1/0 0 1/1 0 0"), read("9 0 1/0 1 0/1 0 0"), read("-1 0 0/0 -1 0/0 0 -1"), read("0 -1/-1 0"), read("5 5 5/-1 -1 -1/5 5 5"), read("100 100 100/100 100 100/100 100 100"),
		read("1 9 1/0 0 0/1 9 1"), read("2 0 2/0 2 0/2 0 2/0 2 0"),
	}
	source := rand.New(rand.NewPCG(3, 11))
	for w := 1; w <= 4; w++ {
		for h := 1; h <= 4 && w*h <= 12; h++ {
			for range 6 {
				l = append(l, mixed(source, w, h, -1, 0, 1, 2), mixed(source, w, h, -1, 0, 0, 3, 3, 5), mixed(source, w, h, 1, 2, 3, 0))
			}
		}
	}
	return l
}

// snake is a chart whose one barrier goes up and down over all its cells that do not cost 0, which are 38.
func snake(cost string) api.Chart {
	text := "x . . . . . . . ./x . . x . . . x ." + strings.Repeat("/x . x . x . x . x", 6) + "/. x . . . x . . x/. . . . . . . . x"
	return read(strings.NewReplacer("x", cost, ".", "0").Replace(text))
}

// large returns charts up to the greatest ones, the same ones for every test.
func large() []api.Chart {
	l := []api.Chart{field(10, 10, 0), field(10, 10, -1), field(10, 10, 1), field(10, 10, 100), field(10, 1, 4), field(1, 10, 4), field(1, 10, -1), field(10, 1, 0), snake("100"), snake("-1")}
	source := rand.New(rand.NewPCG(4, 12))
	for range 25 {
		w, h := 1+source.IntN(10), 1+source.IntN(10)
		l = append(l, mixed(source, 10, 10, -1, 0, 0, 1, 2, 3), mixed(source, 10, 10, -1, 0, 1, 5, 20, 100), mixed(source, w, h, -1, 0, 1, 1, 9), mixed(source, w, h, 0, 2, 4, 6))
	}
	return l
}

func all() []api.Chart {
	return append(small(), large()...)
}

// cost is what a chart says of a cell, which is one of it.
func cost(c api.Chart, cell api.Cell) int {
	return c.Costs[cell.Y*c.W+cell.X]
}

func isCell(c api.Chart, cell api.Cell) bool {
	return cell.X >= 0 && cell.Y >= 0 && cell.X < c.W && cell.Y < c.H
}

// where returns the cells of a chart with costs of a kind, in ascending order.
func where(c api.Chart, is func(cost int) bool) []api.Cell {
	var l []api.Cell
	for i, cost := range c.Costs {
		if is(cost) {
			l = append(l, api.Cell{X: i % c.W, Y: i / c.W})
		}
	}
	return l
}

func everywhere(int) bool { return true }

func booms(cost int) bool { return cost > 0 }

// sets returns sets of booms for a chart: all of them where they are few.
func sets(c api.Chart) [][]api.Cell {
	full := where(c, booms)
	if len(full) > 7 {
		return drawn(full, 40)
	}
	var l [][]api.Cell
	for n := range 1 << len(full) {
		var set []api.Cell
		for i, cell := range full {
			if n>>i&1 == 1 {
				set = append(set, cell)
			}
		}
		l = append(l, set)
	}
	return l
}

// drawn returns some subsets of cells, with none and all among them.
func drawn(full []api.Cell, n int) [][]api.Cell {
	l := [][]api.Cell{nil, full}
	source := rand.New(rand.NewPCG(9, uint64(len(full))))
	for i := range n {
		var set []api.Cell
		for _, cell := range full {
			if source.IntN(n) > i {
				set = append(set, cell)
			}
		}
		l = append(l, set)
	}
	return l
}

// compareCells compares by y and then by x.
func compareCells(a, b api.Cell) int {
	if a.Y != b.Y {
		return cmp.Compare(a.Y, b.Y)
	}
	return cmp.Compare(a.X, b.X)
}

// reaches reports whether b is a neighbour of a, also by a corner if corners count.
func reaches(a, b api.Cell, corners bool) bool {
	for y := -1; y <= 1; y++ {
		for x := -1; x <= 1; x++ {
			if (corners || x == 0 || y == 0) && a != b && b.X == a.X+x && b.Y == a.Y+y {
				return true
			}
		}
	}
	return false
}

func plainIsBarrier(c api.Chart, l []api.Cell) bool {
	for i, cell := range l {
		if !isCell(c, cell) || cost(c, cell) == 0 || slices.Contains(l[:i], cell) {
			return false
		}
		if i > 0 && !reaches(l[i-1], cell, true) {
			return false
		}
		if i > 0 && cell.Y == 0 || i < len(l)-1 && cell.Y == c.H-1 {
			return false
		}
	}
	return len(l) > 0 && l[0].Y == 0 && l[len(l)-1].Y == c.H-1
}

func plainIsChannel(c api.Chart, set, l []api.Cell) bool {
	for i, cell := range l {
		if !isCell(c, cell) || cost(c, cell) == -1 || slices.Contains(set, cell) || slices.Contains(l[:i], cell) {
			return false
		}
		if i > 0 && !reaches(l[i-1], cell, false) {
			return false
		}
	}
	return len(l) > 0 && l[0].X == 0 && l[len(l)-1].X == c.W-1
}

func plainCost(c api.Chart, l []api.Cell) int {
	sum := 0
	for _, cell := range l {
		sum += max(cost(c, cell), 0)
	}
	return sum
}

// barriers returns all barriers of a small chart.
func barriers(c api.Chart) [][]api.Cell {
	var found [][]api.Cell
	solid := where(c, func(cost int) bool { return cost != 0 })
	var try func(l []api.Cell)
	try = func(l []api.Cell) {
		if plainIsBarrier(c, l) {
			found = append(found, slices.Clone(l))
			return
		}
		for _, cell := range solid {
			if slices.Contains(l, cell) || (len(l) == 0) != (cell.Y == 0) || len(l) > 0 && !reaches(l[len(l)-1], cell, true) {
				continue
			}
			try(append(slices.Clone(l), cell))
		}
	}
	try(nil)
	return found
}

// plainChannel goes through all lists of different cells that may become a channel, the shorter ones first, in their order.
func plainChannel(c api.Chart, set []api.Cell) []api.Cell {
	open := slices.DeleteFunc(where(c, func(cost int) bool { return cost >= 0 }), func(cell api.Cell) bool { return slices.Contains(set, cell) })
	for lists := [][]api.Cell{nil}; len(lists) > 0; {
		var longer [][]api.Cell
		for _, l := range lists {
			for _, cell := range open {
				if slices.Contains(l, cell) || len(l) == 0 && cell.X > 0 || len(l) > 0 && !reaches(l[len(l)-1], cell, false) {
					continue
				}
				next := append(slices.Clone(l), cell)
				if plainIsChannel(c, set, next) {
					return next
				}
				longer = append(longer, next)
			}
		}
		lists = longer
	}
	return nil
}

// fewest compares lists by their length and then cell by cell.
func fewest(a, b []api.Cell) int {
	return cmp.Or(cmp.Compare(len(a), len(b)), slices.CompareFunc(a, b, compareCells))
}

// plainHeights begins with the greatest heights of all and lowers what breaks a rule, until nothing does.
func plainHeights(c api.Chart) []int {
	heights := make([]int, len(c.Costs))
	full := where(c, func(cost int) bool { return cost != 0 })
	at := func(cell api.Cell) *int { return &heights[cell.Y*c.W+cell.X] }
	for _, cell := range full {
		*at(cell) = 1000000
	}
	for lowered := true; lowered; {
		lowered = false
		for _, cell := range full {
			most := *at(cell)
			if cell.Y == 0 {
				most = min(most, max(cost(c, cell), 0))
			}
			for _, other := range full {
				if reaches(other, cell, true) {
					most = min(most, *at(other)+max(cost(c, cell), 0))
				}
			}
			lowered = lowered || most < *at(cell)
			*at(cell) = most
		}
	}
	return heights
}

func plainProves(c api.Chart, heights []int, n int) bool {
	full := where(c, func(cost int) bool { return cost != 0 })
	for _, cell := range full {
		height, price := heights[cell.Y*c.W+cell.X], max(cost(c, cell), 0)
		if cell.Y == 0 && height > price || cell.Y == c.H-1 && height < n {
			return false
		}
		for _, other := range full {
			if reaches(other, cell, true) && height > heights[other.Y*c.W+other.X]+price {
				return false
			}
		}
	}
	return true
}

// plainFlooded spreads until no more cells are flooded.
func plainFlooded(c api.Chart, set []api.Cell) []api.Cell {
	open := slices.DeleteFunc(where(c, func(cost int) bool { return cost >= 0 }), func(cell api.Cell) bool { return slices.Contains(set, cell) })
	var flooded []api.Cell
	for before := -1; before < len(flooded); {
		before = len(flooded)
		for _, cell := range open {
			wet := cell.X == 0 || slices.ContainsFunc(flooded, func(other api.Cell) bool { return reaches(other, cell, false) })
			if wet && !slices.Contains(flooded, cell) {
				flooded = append(flooded, cell)
			}
		}
	}
	slices.SortFunc(flooded, compareCells)
	return flooded
}

// plainBlocks reports whether no flooded cell is in the last column.
func plainBlocks(c api.Chart, set []api.Cell) bool {
	return !slices.ContainsFunc(plainFlooded(c, set), func(cell api.Cell) bool { return cell.X == c.W-1 })
}

// boomsOf returns the booms of a barrier as a set.
func boomsOf(c api.Chart, l []api.Cell) []api.Cell {
	set := slices.DeleteFunc(slices.Clone(l), func(cell api.Cell) bool { return cost(c, cell) <= 0 })
	slices.SortFunc(set, compareCells)
	return set
}

// blocks is Blocks where no error is looked for.
func blocks(t *testing.T, c api.Chart, set []api.Cell) bool {
	t.Helper()
	is, err := boom.Blocks(c, set)
	if err != api.OK {
		t.Fatalf("Blocks(%v, %v): error %d", c, set, err)
	}
	return is
}
