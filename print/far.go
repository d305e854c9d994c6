package print

import (
	"iter"
	"slices"

	"skimmer/api"
)

// costs are valid costs.
type costs api.Costs

func (c costs) of(edit int) int {
	switch edit {
	case api.EditKeep:
		return 0
	case api.EditChange:
		return c.Change
	}
	return c.Put
}

func (c costs) ofAll(l []int) int {
	sum := 0
	for _, edit := range l {
		sum += c.of(edit)
	}
	return sum
}

// distances returns how far each print of a list is from a print.
func (c costs) distances(l []string, s string) []int {
	distances := make([]int, len(l))
	for i, t := range l {
		distances[i] = pair{s, t}.distance(c)
	}
	return distances
}

// first returns the index of the first one of the least numbers, and this number.
func first(l []int) (index, least int) {
	least = slices.Min(l)
	return slices.Index(l, least), least
}

// farNumbers are far numbers of a pair, one for each place.
type farNumbers [][]int

func (f farNumbers) at(p place) int {
	return f[p.i][p.k]
}

// by returns what the number that a step leads to is at most.
func (f farNumbers) by(s step, c costs) int {
	return f.at(s.from) + c.of(s.edit)
}

// areFar reports whether numbers have the rows that far numbers have, and are in range.
func (p pair) areFar(far farNumbers) bool {
	if len(far) != len(p.s)+1 {
		return false
	}
	for _, row := range far {
		if len(row) != len(p.t)+1 || slices.Min(row) < 0 || slices.Max(row) > mostFar {
			return false
		}
	}
	return true
}

// proves reports whether far numbers prove n.
func (p pair) proves(far farNumbers, c costs, n int) bool {
	for s := range p.steps() {
		if far.at(s.to) > far.by(s, c) {
			return false
		}
	}
	return far.at(place{}) == 0 && far.at(p.end()) >= n
}

// greatest returns the greatest far numbers: how far the beginnings of both prints are from each other.
func (p pair) greatest(c costs) farNumbers {
	far := make(farNumbers, len(p.s)+1)
	for i := range far {
		far[i] = slices.Repeat([]int{mostFar}, len(p.t)+1)
	}
	far[0][0] = 0
	for s := range p.steps() {
		far[s.to.i][s.to.k] = min(far.at(s.to), far.by(s, c))
	}
	return far
}

func (p pair) distance(c costs) int {
	return p.greatest(c).at(p.end())
}

// cheapest yields the steps with which one comes at least cost to the place that they lead to, in the order of steps.
func (p pair) cheapest(c costs) iter.Seq[step] {
	far := p.greatest(c)
	return func(yield func(step) bool) {
		for s := range p.steps() {
			if far.at(s.to) == far.by(s, c) && !yield(s) {
				return
			}
		}
	}
}

// ways returns how many edits have the least cost.
func (p pair) ways(c costs) int {
	ways := map[place]int{{}: 1}
	for s := range p.cheapest(c) {
		ways[s.to] += ways[s.from]
	}
	return ways[p.end()]
}

// edits returns of the edits with the least cost those that come first. It is enough to keep the first ones that lead to each place: none of these is the beginning of another one, so that what follows does not change which comes first.
func (p pair) edits(c costs) []int {
	lists := map[place][]int{{}: {}}
	for s := range p.cheapest(c) {
		list := slices.Concat(lists[s.from], []int{s.edit})
		known, ok := lists[s.to]
		if !ok || slices.Compare(list, known) < 0 {
			lists[s.to] = list
		}
	}
	return lists[p.end()]
}
