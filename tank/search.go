package tank

import (
	"slices"

	"skimmer/api"
)

// step is how a search came to a state: by a deed from another one.
type step struct {
	from state
	deed api.Deed
}

// search finds the states to which deeds lead from one, up to the first one that is wanted, and the last step to each of them.
//
// As each state is looked at in its turn, and its deeds in theirs, the states come in the order of the deeds that lead to them: the fewest first, and of as many the first ones. So the steps to a state are the fewest deeds, and of several the first ones.
func (t tanks) search(from state, wanted func(s state) bool) ([]state, map[state]step) {
	found, last := []state{from}, map[state]step{from: {}}
	all := t.deeds()
	for i := 0; i < len(found); i++ {
		at := found[i]
		if wanted(at) {
			return found[:i+1], last
		}
		for _, d := range all {
			next := t.does(at, d)
			if _, ok := last[next]; !ok {
				last[next] = step{at, d}
				found = append(found, next)
			}
		}
	}
	return found, last
}

// reached returns all states to which deeds lead from one.
func (t tanks) reached(from state) []state {
	found, _ := t.search(from, func(state) bool { return false })
	return found
}

// fewest returns the fewest deeds from a state to a wanted one, of several the first ones, and whether there are any.
func (t tanks) fewest(from state, wanted func(s state) bool) ([]api.Deed, bool) {
	found, last := t.search(from, wanted)
	at := found[len(found)-1]
	if !wanted(at) {
		return nil, false
	}
	var l []api.Deed
	for at != from {
		l = append(l, last[at].deed)
		at = last[at].from
	}
	slices.Reverse(l)
	return l, true
}

// between returns the fewest deeds from a state to another one, of several the first ones, and whether there are any.
func (t tanks) between(from, to state) ([]api.Deed, bool) {
	return t.fewest(from, func(s state) bool { return s == to })
}
