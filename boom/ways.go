package boom

import (
	"slices"

	"skimmer/api"
)

// ground is a chart with the cells that ways may take there, what each of them counts, and whether cells that touch by a corner are neighbours.
type ground struct {
	chart
	counts  map[api.Cell]int
	corners bool
}

// way is what the cells of a way count, and how many they are; without any cell it is none.
type way struct {
	price, cells int
}

// solid is the ground of barriers.
func (c chart) solid() ground {
	counts := map[api.Cell]int{}
	for _, cell := range c.cells() {
		if c.cost(cell) != bare {
			counts[cell] = c.price(cell)
		}
	}
	return ground{chart: c, counts: counts, corners: true}
}

// open is the ground of channels by a set of booms. Its cells count nothing, so that the least ways are the shortest ones.
func (c chart) open(booms []api.Cell) ground {
	counts := map[api.Cell]int{}
	for _, cell := range c.cells() {
		if c.cost(cell) != land {
			counts[cell] = 0
		}
	}
	for _, cell := range booms {
		delete(counts, cell)
	}
	return ground{chart: c, counts: counts}
}

// takes reports whether ways may take a cell, which need not be one of the chart.
func (g ground) takes(cell api.Cell) bool {
	_, ok := g.counts[cell]
	return ok
}

// those returns the cells that ways may take of which something is true, in ascending order.
func (g ground) those(is func(cell api.Cell) bool) []api.Cell {
	var l []api.Cell
	for _, cell := range g.cells() {
		if g.takes(cell) && is(cell) {
			l = append(l, cell)
		}
	}
	return l
}

func (g ground) all() []api.Cell {
	return g.those(g.takes)
}

func (g ground) row(y int) []api.Cell {
	return g.those(func(cell api.Cell) bool { return cell.Y == y })
}

func (g ground) column(x int) []api.Cell {
	return g.those(func(cell api.Cell) bool { return cell.X == x })
}

// touch reports whether two cells of the chart are neighbours.
func (g ground) touch(a, b api.Cell) bool {
	right, down := apart(a.X, b.X), apart(a.Y, b.Y)
	return right+down == 1 || g.corners && right == 1 && down == 1
}

func apart(a, b int) int {
	return max(a-b, b-a)
}

// next returns the neighbours of a cell that ways may take, in ascending order.
func (g ground) next(cell api.Cell) []api.Cell {
	var l []api.Cell
	for y := cell.Y - 1; y <= cell.Y+1; y++ {
		for x := cell.X - 1; x <= cell.X+1; x++ {
			next := api.Cell{X: x, Y: y}
			if g.takes(next) && g.touch(cell, next) {
				l = append(l, next)
			}
		}
	}
	return l
}

// isWay reports whether a list is one of different cells that ways may take, each a neighbour of the one in front of it. As they differ, they are no more than the chart has.
func (g ground) isWay(l []api.Cell) bool {
	seen := map[api.Cell]bool{}
	for i, cell := range l {
		if seen[cell] || !g.takes(cell) {
			return false
		}
		if i > 0 && !g.touch(l[i-1], cell) {
			return false
		}
		seen[cell] = true
	}
	return len(l) > 0
}

// with returns the way that has one cell more.
func (w way) with(count int) way {
	return way{w.price + count, w.cells + 1}
}

// without returns the way that has one cell less.
func (w way) without(count int) way {
	return way{w.price - count, w.cells - 1}
}

func (w way) less(v way) bool {
	return w.price < v.price || w.price == v.price && w.cells < v.cells
}

// ways returns the least way from each cell to one of those of to, itself and that one included, where there is one. A cell is looked at again when a lesser way is found from it.
func (g ground) ways(to []api.Cell) map[api.Cell]way {
	found := map[api.Cell]way{}
	for _, cell := range to {
		found[cell] = way{}.with(g.counts[cell])
	}
	look := slices.Clone(to)
	for len(look) > 0 {
		cell := look[0]
		look = look[1:]
		for _, next := range g.next(cell) {
			longer := found[cell].with(g.counts[next])
			if old, ok := found[next]; !ok || longer.less(old) {
				found[next] = longer
				look = append(look, next)
			}
		}
	}
	return found
}

// least returns the cells of the least way from one of the cells of from to one of those of to: of several the first one, and no cell at all if there is none. Each cell is the first one from which the way is just what is left.
func (g ground) least(from, to []api.Cell) []api.Cell {
	ways := g.ways(to)
	var l []api.Cell
	for left := shortest(ways, from); left != (way{}); {
		cell := from[slices.IndexFunc(from, func(cell api.Cell) bool { return ways[cell] == left })]
		l = append(l, cell)
		left = left.without(g.counts[cell])
		from = g.next(cell)
	}
	return l
}

// shortest returns the least of the ways from some cells, or none.
func shortest(ways map[api.Cell]way, from []api.Cell) way {
	var best way
	for _, cell := range from {
		if w, ok := ways[cell]; ok && (best == way{} || w.less(best)) {
			best = w
		}
	}
	return best
}
