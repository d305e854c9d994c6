package boom

import (
	"cmp"
	"slices"

	"skimmer/api"
)

// What a chart says of a cell without a price.
const (
	land = -1 // land, which costs a barrier nothing
	bare = 0  // water where no boom holds
)

// chart is a valid chart; its methods rely on that, and on sets of booms that are some for it.
type chart struct {
	api.Chart
}

// compare orders cells by y and then by x.
func compare(a, b api.Cell) int {
	return cmp.Or(cmp.Compare(a.Y, b.Y), cmp.Compare(a.X, b.X))
}

func (c chart) has(cell api.Cell) bool {
	return 0 <= cell.X && cell.X < c.W && 0 <= cell.Y && cell.Y < c.H
}

func (c chart) index(cell api.Cell) int {
	return cell.Y*c.W + cell.X
}

// cost is what the chart says of a cell.
func (c chart) cost(cell api.Cell) int {
	return c.Costs[c.index(cell)]
}

// price is what a cell costs in a barrier.
func (c chart) price(cell api.Cell) int {
	return max(c.cost(cell), 0)
}

// total is what the cells of a barrier cost together.
func (c chart) total(l []api.Cell) int {
	sum := 0
	for _, cell := range l {
		sum += c.price(cell)
	}
	return sum
}

// isSet reports whether a list is a set of booms.
func (c chart) isSet(booms []api.Cell) bool {
	for i, cell := range booms {
		if !c.has(cell) || c.cost(cell) <= bare {
			return false
		}
		if i > 0 && compare(booms[i-1], cell) >= 0 {
			return false
		}
	}
	return true
}

// cells returns all cells in ascending order.
func (c chart) cells() []api.Cell {
	all := make([]api.Cell, 0, len(c.Costs))
	for y := range c.H {
		for x := range c.W {
			all = append(all, api.Cell{X: x, Y: y})
		}
	}
	return all
}

// other returns the chart of the same size with the costs that are told cell by cell.
func (c chart) other(cost func(cell api.Cell) int) api.Chart {
	costs := make([]int, len(c.Costs))
	for i, cell := range c.cells() {
		costs[i] = cost(cell)
	}
	return api.Chart{W: c.W, H: c.H, Costs: costs}
}

func (c chart) turned() api.Chart {
	return c.other(func(cell api.Cell) int {
		return c.cost(api.Cell{X: cell.X, Y: c.H - 1 - cell.Y})
	})
}

func (c chart) strong(most int) api.Chart {
	return c.other(func(cell api.Cell) int {
		if c.cost(cell) > most {
			return bare
		}
		return c.cost(cell)
	})
}

func (c chart) dry(booms []api.Cell) api.Chart {
	return c.other(func(cell api.Cell) int {
		if slices.Contains(booms, cell) {
			return land
		}
		return c.cost(cell)
	})
}

// isBarrier reports whether a list is a barrier: a way over its ground of which the first cell alone is in row 0, and the last one alone in row H - 1.
func (c chart) isBarrier(l []api.Cell) bool {
	if !c.solid().isWay(l) {
		return false
	}
	for i, cell := range l {
		if (cell.Y == 0) != (i == 0) || (cell.Y == c.H-1) != (i == len(l)-1) {
			return false
		}
	}
	return true
}

// barrier returns the first of the barriers with the least cost and then the fewest cells, or no cell at all. A least way is a barrier: were one more of its cells in row 0 or in row H - 1, a part of it would be a way with fewer cells.
func (c chart) barrier() []api.Cell {
	g := c.solid()
	return g.least(g.row(0), g.row(c.H-1))
}

// heights returns for each cell what the cheapest way to it from row 0 costs: so high, and no higher, may it be.
func (c chart) heights() []int {
	g := c.solid()
	ways := g.ways(g.row(0))
	heights := make([]int, len(c.Costs))
	for i, cell := range c.cells() {
		if w, ok := ways[cell]; ok {
			heights[i] = w.price
		} else if g.takes(cell) {
			heights[i] = maxHeight
		}
	}
	return heights
}

// proves reports whether heights prove n.
func (c chart) proves(heights []int, n int) bool {
	g := c.solid()
	for _, cell := range g.all() {
		height := heights[c.index(cell)]
		if cell.Y == 0 && height > c.price(cell) || cell.Y == c.H-1 && height < n {
			return false
		}
		for _, next := range g.next(cell) {
			if heights[c.index(next)] > height+c.price(next) {
				return false
			}
		}
	}
	return true
}

// isChannel reports whether a list is a channel by a set of booms.
func (c chart) isChannel(booms, l []api.Cell) bool {
	return c.open(booms).isWay(l) && l[0].X == 0 && l[len(l)-1].X == c.W-1
}

// channel returns the first of the shortest channels by a set of booms, or no cell at all.
func (c chart) channel(booms []api.Cell) []api.Cell {
	g := c.open(booms)
	return g.least(g.column(0), g.column(c.W-1))
}

func (c chart) blocks(booms []api.Cell) bool {
	return len(c.channel(booms)) == 0
}

// flooded returns the cells to which there is a way from column 0.
func (c chart) flooded(booms []api.Cell) []api.Cell {
	g := c.open(booms)
	ways := g.ways(g.column(0))
	return g.those(func(cell api.Cell) bool {
		_, ok := ways[cell]
		return ok
	})
}

// thin leaves out, from the last one on, each boom without which the others block.
func (c chart) thin(booms []api.Cell) []api.Cell {
	kept := slices.Clone(booms)
	for i := range slices.Backward(booms) {
		others := slices.Delete(slices.Clone(kept), i, i+1)
		if c.blocks(others) {
			kept = others
		}
	}
	return kept
}
