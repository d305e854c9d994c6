package tank_test

import (
	"reflect"
	"slices"
	"testing"

	"skimmer/api"
)

// This file has what the other tests share: tanks, and the chapter's terms told word by word, to compare with.

// check compares a result and its error with those wanted.
func check[R any](t *testing.T, name string, got R, err api.Errno, want R, wantErr api.Errno) {
	t.Helper()
	if err != wantErr || !reflect.DeepEqual(got, want) {
		t.Errorf("%s: %v, error %d, want %v, error %d", name, got, err, want, wantErr)
	}
}

// checkList is check for lists, where nil and empty are the same.
func checkList[R comparable](t *testing.T, name string, got []R, err api.Errno, want []R, wantErr api.Errno) {
	t.Helper()
	if err != wantErr || !slices.Equal(got, want) {
		t.Errorf("%s: %v, error %d, want %v, error %d", name, got, err, want, wantErr)
	}
}

func fill(to int) api.Deed { return api.Deed{Do: api.DoFill, To: to} }

func empty(to int) api.Deed { return api.Deed{Do: api.DoEmpty, To: to} }

func pour(from, to int) api.Deed { return api.Deed{Do: api.DoPour, From: from, To: to} }

// few returns tanks with few levels: two to four, that hold the same or not, some that hold 1, with measures of all kinds.
func few() [][]int {
	var l [][]int
	for a := 1; a <= 7; a++ {
		for b := 1; b <= 7; b++ {
			l = append(l, []int{a, b})
		}
	}
	return append(l, [][]int{
		{1, 12}, {12, 1}, {11, 12}, {12, 9}, {8, 12}, {12, 12}, {5, 12},
		{1, 1, 1}, {2, 2, 2}, {1, 2, 3}, {3, 3, 5}, {5, 3, 3}, {2, 4, 6}, {4, 6, 9}, {6, 3, 12}, {3, 5, 8}, {1, 12, 1},
		{1, 1, 1, 1}, {1, 2, 3, 4}, {4, 2, 4, 2}, {2, 3, 2, 3}, {3, 5, 3, 1}, {2, 6, 4, 2}, {1, 1, 1, 12},
	}...)
}

// many returns tanks with many levels.
func many() [][]int {
	return [][]int{{5, 7, 12}, {12, 10, 8}, {12, 12, 12}, {6, 10, 12, 9}, {12, 8, 4, 12}, {9, 10, 11, 12}, {12, 12, 12, 11}, {12, 12, 12, 12}}
}

// model is all levels for tanks and what deeds make of them.
type model struct {
	t      []int
	levels [][]int
	deeds  []api.Deed
	next   [][]int // the places of the levels behind each deed, for each of levels
}

func modelOf(t []int) model {
	m := model{t: t, levels: [][]int{nil}, deeds: slices.DeleteFunc(triples(len(t)), func(d api.Deed) bool { return !plainIsDeed(t, d) })}
	for _, holds := range t {
		var longer [][]int
		for _, l := range m.levels {
			for level := range holds + 1 {
				longer = append(longer, append(slices.Clone(l), level))
			}
		}
		m.levels = longer
	}
	for _, l := range m.levels {
		var next []int
		for _, d := range m.deeds {
			next = append(next, m.place(plainDoes(t, l, d)))
		}
		m.next = append(m.next, next)
	}
	return m
}

// place is where in levels some are.
func (m model) place(l []int) int {
	i, ok := slices.BinarySearchFunc(m.levels, l, slices.Compare)
	if !ok {
		panic("no levels")
	}
	return i
}

// triples returns what may be deeds with n tanks, and some that are none, in ascending order.
func triples(n int) []api.Deed {
	var l []api.Deed
	for do := -1; do <= 5; do++ {
		for from := -1; from <= n; from++ {
			for to := -1; to <= n; to++ {
				l = append(l, api.Deed{Do: do, From: from, To: to})
			}
		}
	}
	return l
}

func plainIsDeed(t []int, d api.Deed) bool {
	if d.To < 0 || d.To >= len(t) || d.From < 0 || d.From >= len(t) {
		return false
	}
	return (d.Do == 1 || d.Do == 2) && d.From == 0 || d.Do == 3 && d.From != d.To
}

// plainDoes fills, empties and pours by ones.
func plainDoes(t, levels []int, d api.Deed) []int {
	l := slices.Clone(levels)
	switch d.Do {
	case 1:
		for l[d.To] != t[d.To] {
			l[d.To]++
		}
	case 2:
		for l[d.To] != 0 {
			l[d.To]--
		}
	case 3:
		for l[d.From] != 0 && l[d.To] != t[d.To] {
			l[d.From]--
			l[d.To]++
		}
	}
	return l
}

// far returns for all levels how many deeds at least lead to some that are wanted, or -1.
func (m model) far(wanted func(l []int) bool) []int {
	far := make([]int, len(m.levels))
	for i, l := range m.levels {
		if !wanted(l) {
			far[i] = -1
		}
	}
	for n, found := 0, true; found; n++ {
		found = false
		for i := range far {
			if far[i] == -1 && slices.ContainsFunc(m.next[i], func(next int) bool { return far[next] == n }) {
				far[i], found = n+1, true
			}
		}
	}
	return far
}

// fewest takes, in levels from which wanted ones are so far, the first deed that leads nearer, again and again.
func (m model) fewest(from []int, far []int) []api.Deed {
	var l []api.Deed
	for i := m.place(from); far[i] > 0; {
		j := slices.IndexFunc(m.next[i], func(next int) bool { return far[next] == far[i]-1 })
		l = append(l, m.deeds[j])
		i = m.next[i][j]
	}
	return l
}

// all returns the levels that come about, in ascending order: it spreads from empty tanks until no more are found.
func (m model) all() [][]int {
	is := make([]bool, len(m.levels))
	is[0] = true
	for found := true; found; {
		found = false
		for i := range is {
			for _, next := range m.next[i] {
				if is[i] && !is[next] {
					is[next], found = true, true
				}
			}
		}
	}
	var l [][]int
	for i, levels := range m.levels {
		if is[i] {
			l = append(l, levels)
		}
	}
	return l
}

// has is what is wanted of levels with an amount in a tank.
func has(tank, amount int) func(l []int) bool {
	return func(l []int) bool { return l[tank] == amount }
}

// plainMeasure tries numbers downwards.
func plainMeasure(t []int) int {
	n := slices.Min(t)
	for slices.ContainsFunc(t, func(holds int) bool { return holds%n != 0 }) {
		n--
	}
	return n
}

// plainTwo does what the chapter says of Two.
func plainTwo(a, b, amount int) []api.Deed {
	t, now := []int{a, b}, []int{0, 0}
	var l []api.Deed
	does := func(d api.Deed) {
		l = append(l, d)
		now = plainDoes(t, now, d)
	}
	for now[1] != amount {
		if now[0] == 0 {
			does(fill(0))
		}
		does(pour(0, 1))
		if now[1] == b && amount != b {
			does(empty(1))
		}
	}
	return l
}

func total(l []int) int {
	sum := 0
	for _, n := range l {
		sum += n
	}
	return sum
}
