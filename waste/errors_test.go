package waste_test

import (
	"math/rand/v2"
	"reflect"
	"slices"
	"testing"

	"skimmer/api"
	"skimmer/waste"
)

// call is a call of a function with whatever arguments: its name, the error and whether the result is its zero value.
type call struct {
	name string
	err  api.Errno
	zero bool
}

func called[R any](name string, got R, err api.Errno) call {
	v := reflect.ValueOf(got)
	return call{name, err, v.IsZero() || v.Kind() == reflect.Slice && v.Len() == 0}
}

// alone calls the functions that take kinds alone.
func alone(k api.Kinds) []call {
	poly, err := waste.Poly(k)
	fewest, err2 := waste.Fewest(k)
	clash, err3 := waste.AllClash(k)
	apart, err4 := waste.Apart(k)
	other, err5 := waste.Other(k)
	parts, err6 := waste.Parts(k)
	n, err7 := waste.Loadings(k)
	return []call{called("Poly", poly, err), called("Fewest", fewest, err2), called("AllClash", clash, err3), called("Apart", apart, err4), called("Other", other, err5), called("Parts", parts, err6), called("Loadings", n, err7)}
}

// withNumber calls the functions that take a number: of skips, or of a pair.
func withNumber(k api.Kinds, number int) []call {
	n, err := waste.Count(k, number)
	fill, err2 := waste.First(k, number)
	rest, err3 := waste.Without(k, number)
	joined, err4 := waste.Joined(k, number)
	return []call{called("Count", n, err), called("First", fill, err2), called("Without", rest, err3), called("Joined", joined, err4)}
}

// withFill calls the functions that take a filling.
func withFill(k api.Kinds, fill []int) []call {
	is, err := waste.Right(k, fill)
	before, err2 := waste.Clears(k, fill)
	return []call{called("Right", is, err), called("Clears", before, err2)}
}

// withList calls the functions that take another list.
func withList(k api.Kinds, order []int, before []bool) []call {
	fill, err := waste.Line(k, order)
	is, err2 := waste.IsLoading(k, before)
	return []call{called("Line", fill, err), called("IsLoading", is, err2)}
}

func checkCalls(t *testing.T, calls []call, want api.Errno) {
	t.Helper()
	for _, c := range calls {
		if c.err != want || !c.zero {
			t.Errorf("%s: error %d, want %d, and the zero value: %v", c.name, c.err, want, c.zero)
		}
	}
}

// P7.1: kinds that are not valid come first, whatever else is wrong.
func TestErrKinds(t *testing.T) {
	for _, k := range badKinds() {
		checkCalls(t, alone(k), api.ErrKinds)
		for _, number := range []int{0, 1, 3, -1, 2, 21, -11, len(k.Clash), 1 << 62, -1 << 63} {
			checkCalls(t, withNumber(k, number), api.ErrKinds)
		}
		for _, n := range []int{0, 1, 3, min(max(k.N, 0), 20), 9, 100000} {
			checkCalls(t, withFill(k, make([]int, n)), api.ErrKinds)
			checkCalls(t, withList(k, make([]int, n), make([]bool, n)), api.ErrKinds)
		}
		checkCalls(t, withFill(k, []int{0, 1, 2}), api.ErrKinds)
		checkCalls(t, withFill(k, []int{-1, 0, 1001}), api.ErrKinds)
		checkCalls(t, withList(k, []int{0, 1, 2}, make([]bool, len(k.Clash))), api.ErrKinds)
	}
}

// P7.1: then lists that are no fillings, also where they would not be right.
func TestErrFill(t *testing.T) {
	for _, k := range all() {
		for _, fill := range badFills(k.N) {
			checkCalls(t, withFill(k, fill), api.ErrFill)
		}
	}
	for _, fill := range [][]int{{-1, -1, -1}, {1001, 1001, 1001}, {0, 0, 1001}, {0, 0}, {0, 0, 0, 0}, {0, 0, -1}} {
		checkCalls(t, withFill(full(3), fill), api.ErrFill)
	}
}

// P7.1: what is out of range comes in front of what there is not, and what is not right comes last.
func TestErrArgAndNone(t *testing.T) {
	checkCalls(t, withNumber(full(3), -1)[1:], api.ErrArg)
	checkCalls(t, withNumber(full(3), 21), api.ErrArg)
	checkCalls(t, withNumber(full(3), -11), api.ErrArg)
	checkCalls(t, withNumber(kinds(8), 0)[2:], api.ErrArg)
	checkCalls(t, withList(kinds(3, 0, 1), []int{0, 1, 1}, nil), api.ErrArg)
	checkCalls(t, withNumber(full(3), 2)[1:2], api.ErrNone)
	checkCalls(t, withFill(full(3), []int{0, 1000, 1000})[1:], api.ErrNone)
}

// R4: no argument is changed, and what lies beyond a list is not read.
func TestMemory(t *testing.T) {
	pairs := [][2]int{{1, 2}, {0, 1}, {0, 1}, {5, 4}}
	k := api.Kinds{N: 3, Clash: pairs[:2]}
	fill, order, before := []int{1, 2, 0, -1, 2000}, []int{2, 0, 1, 1, 9}, []bool{true, false, true, false}
	calls := slices.Concat(alone(k), withNumber(k, 1)[2:], withFill(k, fill[:3]), withList(k, order[:3], before[:2]))
	n, err := waste.Count(k, 2)
	first, err2 := waste.First(k, 2)
	for _, c := range append(calls, called("Count", n, err), called("First", first, err2)) {
		if c.err != api.OK || c.zero {
			t.Errorf("%s: error %d, and the zero value: %v", c.name, c.err, c.zero)
		}
	}
	checkList(t, "the pairs", pairs, api.OK, [][2]int{{1, 2}, {0, 1}, {0, 1}, {5, 4}}, api.OK)
	checkList(t, "the filling", fill, api.OK, []int{1, 2, 0, -1, 2000}, api.OK)
	checkList(t, "the order", order, api.OK, []int{2, 0, 1, 1, 9}, api.OK)
	checkList(t, "the order of loading", before, api.OK, []bool{true, false, true, false}, api.OK)
}

// R4: nil lists are the same as empty ones.
func TestNilLists(t *testing.T) {
	for _, k := range []api.Kinds{{N: 3}, {N: 3, Clash: [][2]int{}}} {
		check(t, "Valid", waste.Valid(k), api.OK, true, api.OK)
		poly, err := waste.Poly(k)
		checkList(t, "Poly", poly, err, []int{0, 0, 0, 1}, api.OK)
		for _, before := range [][]bool{nil, {}} {
			is, err := waste.IsLoading(k, before)
			check(t, "IsLoading", is, err, true, api.OK)
		}
		for _, list := range [][]int{nil, {}} {
			checkCalls(t, withFill(k, list), api.ErrFill)
			checkCalls(t, withList(k, list, nil)[:1], api.ErrArg)
		}
	}
}

// spoil writes to all of a list, also beyond its length.
func spoil[E any](l []E, with E) {
	for i := range l[:cap(l)] {
		l[:cap(l)][i] = with
	}
}

// R4: what is done with a result changes neither an argument nor the next result.
func TestNewMemory(t *testing.T) {
	k, fill, order := kinds(3, 1, 2, 0, 1), []int{0, 1, 0}, []int{0, 1, 2}
	for range 2 {
		for _, x := range []struct {
			name string
			call func(k api.Kinds) ([]int, api.Errno)
			want []int
		}{
			{"Poly", waste.Poly, []int{0, 1, -2, 1}}, {"AllClash", waste.AllClash, []int{0, 1}}, {"Apart", waste.Apart, []int{0, 2}}, {"Parts", waste.Parts, []int{0, 0, 0}},
			{"First", func(k api.Kinds) ([]int, api.Errno) { return waste.First(k, 2) }, []int{0, 1, 0}},
			{"Line", func(k api.Kinds) ([]int, api.Errno) { return waste.Line(k, order) }, []int{0, 1, 0}},
		} {
			l, err := x.call(k)
			checkList(t, x.name, l, err, x.want, api.OK)
			spoil(l, 99)
		}
		before, err := waste.Clears(k, fill)
		checkList(t, "Clears", before, err, []bool{false, true}, api.OK)
		spoil(before, true)
		for _, x := range []struct {
			name string
			call func(k api.Kinds) (api.Kinds, api.Errno)
			want api.Kinds
		}{
			{"Without", func(k api.Kinds) (api.Kinds, api.Errno) { return waste.Without(k, 1) }, kinds(3, 1, 2)},
			{"Without", func(k api.Kinds) (api.Kinds, api.Errno) { return waste.Without(k, 0) }, kinds(3, 0, 1)},
			{"Joined", func(k api.Kinds) (api.Kinds, api.Errno) { return waste.Joined(k, 1) }, kinds(2, 0, 1)},
			{"Other", waste.Other, kinds(3, 0, 2)},
		} {
			made, err := x.call(k)
			checkKinds(t, x.name, made, err, x.want, api.OK)
			spoil(made.Clash, [2]int{9, 9})
		}
	}
	checkKinds(t, "the kinds", k, api.OK, kinds(3, 1, 2, 0, 1), api.OK)
	checkList(t, "the filling", fill, api.OK, []int{0, 1, 0}, api.OK)
	checkList(t, "the order", order, api.OK, []int{0, 1, 2}, api.OK)
}

// R1: whatever the arguments are.
func TestNoPanic(t *testing.T) {
	source := rand.New(rand.NewPCG(7, 1))
	for range 3000 {
		k := api.Kinds{N: source.IntN(12) - 1}
		for range source.IntN(5) {
			k.Clash = append(k.Clash, [2]int{source.IntN(10) - 1, source.IntN(10) - 1})
		}
		n := source.IntN(10)
		list := drawn(source, 1, n, 10)[0]
		calls := slices.Concat(alone(k), withNumber(k, source.IntN(40)-15), withFill(k, list), withList(k, list, make([]bool, n)))
		for _, c := range calls {
			if c.err != api.OK && !c.zero {
				t.Errorf("%s of %v: error %d, and not the zero value", c.name, k, c.err)
			}
		}
	}
}
