package print

import (
	"iter"

	"skimmer/api"
)

// pair is two prints.
type pair struct{ s, t string }

// place is how many peaks of both prints edits have used up.
type place struct{ i, k int }

// step is an edit that leads from a place to another one.
type step struct {
	from, to place
	edit     int
}

func (p pair) end() place {
	return place{len(p.s), len(p.t)}
}

// stepsFrom yields the edits that lead on from a place.
func (p pair) stepsFrom(from place) iter.Seq[step] {
	i, k := from.i, from.k
	return func(yield func(step) bool) {
		if i < len(p.s) && k < len(p.t) && !yield(step{from, place{i + 1, k + 1}, p.across(from)}) {
			return
		}
		if i < len(p.s) && !yield(step{from, place{i + 1, k}, api.EditLeave}) {
			return
		}
		if k < len(p.t) {
			yield(step{from, place{i, k + 1}, api.EditPut})
		}
	}
}

// across returns the edit that takes the next peak of both.
func (p pair) across(from place) int {
	if p.s[from.i] == p.t[from.k] {
		return api.EditKeep
	}
	return api.EditChange
}

// steps yields the edits that lead on from all places. Those that lead to a place all come before those that lead on from it.
func (p pair) steps() iter.Seq[step] {
	return func(yield func(step) bool) {
		for i := range len(p.s) + 1 {
			for k := range len(p.t) + 1 {
				for s := range p.stepsFrom(place{i, k}) {
					if !yield(s) {
						return
					}
				}
			}
		}
	}
}

// areEdits goes through a list. However long it is, no edit leads on once both prints are used up.
func (p pair) areEdits(l []int) bool {
	at := place{}
	for _, edit := range l {
		next, ok := p.next(at, edit)
		if !ok {
			return false
		}
		at = next
	}
	return at == p.end()
}

// next returns the place to which an edit leads, if it does.
func (p pair) next(from place, edit int) (place, bool) {
	for s := range p.stepsFrom(from) {
		if s.edit == edit {
			return s.to, true
		}
	}
	return place{}, false
}

// back returns the edits the other way round, from the second print to the first one.
func back(l []int) []int {
	undoing := make([]int, len(l))
	for i, edit := range l {
		switch edit {
		case api.EditLeave:
			edit = api.EditPut
		case api.EditPut:
			edit = api.EditLeave
		}
		undoing[i] = edit
	}
	return undoing
}
