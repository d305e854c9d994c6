package slick

import (
	"iter"
	"slices"

	"skimmer/api"
)

// waters is a valid bay; its methods rely on that. Its places are its cells and, behind them, one more for what is away; amounts and prices are lists of a number for each place.
type waters api.Bay

// step is how far a direction leads.
type step struct {
	right, down int
}

// directions are those of the shares of a cell, in their order: it stays, goes up, to the right, down and to the left.
var directions = [5]step{{0, 0}, {0, -1}, {1, 0}, {0, 1}, {-1, 0}}

// amounts returns the numbers of a slick, Away as the last one.
func amounts(s api.Slick) []int {
	return append(slices.Clone(s.Oil), s.Away)
}

// slickOf returns the slick with these amounts.
func slickOf(k int, amounts []int) api.Slick {
	away := len(amounts) - 1
	return api.Slick{K: k, Oil: slices.Clone(amounts[:away]), Away: amounts[away]}
}

func total(amounts []int) int {
	sum := 0
	for _, amount := range amounts {
		sum += amount
	}
	return sum
}

// greatest returns the first place with the greatest amount, if there is any amount at all.
func greatest(amounts []int) (int, api.Errno) {
	most := slices.Max(amounts)
	if most == 0 {
		return 0, api.ErrNone
	}
	return slices.Index(amounts, most), api.OK
}

func (w waters) away() int {
	return len(w.Land)
}

// alone returns the amounts of which a single part is at a place.
func (w waters) alone(place int) []int {
	amounts := make([]int, w.away()+1)
	amounts[place] = 1
	return amounts
}

// only returns the amounts of the cells, with 0 for all that are not land, or for all that are.
func (w waters) only(amounts []int, land bool) []int {
	kept := make([]int, len(w.Land))
	for cell, is := range w.Land {
		if is == land {
			kept[cell] = amounts[cell]
		}
	}
	return kept
}

// next returns the place to which a step leads from a cell.
func (w waters) next(cell int, s step) int {
	x, y := cell%w.W+s.right, cell/w.W+s.down
	if x < 0 || x >= w.W || y < 0 || y >= w.H {
		return w.away()
	}
	return y*w.W + x
}

// keeps reports whether the oil of a place moves no more.
func (w waters) keeps(place int) bool {
	return place == w.away() || w.Land[place]
}

// gives yields each place that gets oil of a place in one move, and how many sixteenths; what is away comes more than once where several directions leave the bay.
func (w waters) gives(place int) iter.Seq2[int, int] {
	return func(yield func(to, sixteenths int) bool) {
		if w.keeps(place) {
			yield(place, whole)
			return
		}
		for way, sixteenths := range w.Share[place] {
			if sixteenths > 0 && !yield(w.next(place, directions[way]), sixteenths) {
				return
			}
		}
	}
}

// moved returns the amounts behind one move.
func (w waters) moved(amounts []int) []int {
	later := make([]int, len(amounts))
	for place, amount := range amounts {
		for to, sixteenths := range w.gives(place) {
			later[to] += amount * sixteenths
		}
	}
	return later
}

func (w waters) after(amounts []int, n int) []int {
	for range n {
		amounts = w.moved(amounts)
	}
	return amounts
}

// priced returns the prices before one move: a place costs what all those cost that get its oil.
func (w waters) priced(prices []int) []int {
	earlier := make([]int, len(prices))
	for place := range prices {
		for to, sixteenths := range w.gives(place) {
			earlier[place] += prices[to] * sixteenths
		}
	}
	return earlier
}

// before copies the prices first, as no move at all would give them back themselves.
func (w waters) before(prices []int, n int) []int {
	prices = slices.Clone(prices)
	for range n {
		prices = w.priced(prices)
	}
	return prices
}

func (w waters) reach(from, n int) []int {
	now := w.alone(from)
	reached := slices.Clone(now)
	for range n {
		now = w.moved(now)
		for place, amount := range now {
			reached[place] += amount
		}
	}
	var cells []int
	for cell := range w.Land {
		if reached[cell] > 0 {
			cells = append(cells, cell)
		}
	}
	return cells
}

func (w waters) mirrored() api.Bay {
	m := api.Bay{W: w.W, H: w.H, Land: make([]bool, len(w.Land)), Share: make([][5]int, len(w.Share))}
	for cell, share := range w.Share {
		x, y := cell%w.W, cell/w.W
		to := y*w.W + w.W - 1 - x
		stay, up, right, down, left := share[0], share[1], share[2], share[3], share[4]
		m.Land[to] = w.Land[cell]
		m.Share[to] = [5]int{stay, up, left, down, right}
	}
	return m
}
