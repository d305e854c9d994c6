package print_test

import (
	"math/rand/v2"
	"reflect"
	"slices"
	"strings"
	"testing"

	"skimmer/api"
	"skimmer/print"
)

// call is a call of a function with whatever arguments: its name, the error and whether the result is its zero value.
type call struct {
	name string
	err  api.Errno
	zero bool
}

func called[R any](name string, got R, err api.Errno) call {
	v := reflect.ValueOf(got)
	return call{name, err, v.IsZero() || v.Kind() == reflect.Slice && v.Len() == 0}
}

// alone calls the function that takes two prints alone.
func alone(s, t string) []call {
	row, err := print.Common(s, t)
	return []call{called("Common", row, err)}
}

// withRow calls the function that takes a third print.
func withRow(s, t, row string) []call {
	is, err := print.IsCommon(s, t, row)
	return []call{called("IsCommon", is, err)}
}

// withCosts calls the functions that take two prints and costs.
func withCosts(s, t string, c api.Costs) []call {
	n, err := print.Distance(s, t, c)
	l, err2 := print.Edits(s, t, c)
	far, err3 := print.Far(s, t, c)
	ways, err4 := print.Ways(s, t, c)
	return []call{called("Distance", n, err), called("Edits", l, err2), called("Far", far, err3), called("Ways", ways, err4)}
}

// withEdits calls the functions that take edits: AreEdits first, then Back, and then CostOf, which takes costs too.
func withEdits(s, t string, l []int, c api.Costs) []call {
	is, err := print.AreEdits(s, t, l)
	undoing, err2 := print.Back(s, t, l)
	n, err3 := print.CostOf(s, t, l, c)
	return []call{called("AreEdits", is, err), called("Back", undoing, err2), called("CostOf", n, err3)}
}

// withFar calls the function that takes far numbers.
func withFar(s, t string, far [][]int, c api.Costs, n int) []call {
	is, err := print.Proves(s, t, far, c, n)
	return []call{called("Proves", is, err)}
}

// withList calls the functions that take prints that are compared with one.
func withList(l []string, s string, c api.Costs, most int) []call {
	i, n, err := print.Nearest(l, s, c)
	within, err2 := print.Within(l, s, c, most)
	return []call{called("Nearest", [2]int{i, n}, err), called("Within", within, err2)}
}

func middle(l []string, c api.Costs) []call {
	i, n, err := print.Middle(l, c)
	return []call{called("Middle", [2]int{i, n}, err)}
}

// every calls all functions that take two prints.
func every(s, t string, c api.Costs, edits []int, far [][]int, n int) []call {
	return slices.Concat(alone(s, t), withRow(s, t, ""), withCosts(s, t, c), withEdits(s, t, edits, c), withFar(s, t, far, c, n))
}

func checkCalls(t *testing.T, calls []call, want api.Errno) {
	t.Helper()
	for _, c := range calls {
		if c.err != want || !c.zero {
			t.Errorf("%s: error %d, want %d, and the zero value: %v", c.name, c.err, want, c.zero)
		}
	}
}

// P9.1: what is no print comes first, wherever it stands and whatever else is wrong.
func TestErrPrint(t *testing.T) {
	for _, bad := range badPrints() {
		n, err := print.Rows(bad)
		checkCalls(t, []call{called("Rows", n, err)}, api.ErrPrint)
		for _, c := range []api.Costs{costs(1, 1), {}, costs(10, 1)} {
			for _, good := range []string{"", "ab", strings.Repeat("h", 20), bad} {
				for _, number := range []int{0, 1, -1, 1001} {
					checkCalls(t, every(bad, good, c, []int{0}, nil, number), api.ErrPrint)
					checkCalls(t, every(good, bad, c, nil, [][]int{{0}}, number), api.ErrPrint)
					checkCalls(t, withList([]string{good}, bad, c, number), api.ErrPrint)
					checkCalls(t, withList([]string{"a", bad}, good, c, number), api.ErrPrint)
				}
				checkCalls(t, withRow(good, "ab", bad), api.ErrPrint)
				checkCalls(t, withRow("", good, bad), api.ErrPrint)
				checkCalls(t, middle([]string{good, bad}, c), api.ErrPrint)
			}
		}
	}
	for _, bad := range badLists() {
		for _, c := range []api.Costs{costs(1, 1), {}, costs(10, 1)} {
			for _, number := range []int{0, 1, -1, 1001} {
				checkCalls(t, withList(bad, "ab", c, number), api.ErrPrint)
				checkCalls(t, withList(bad, "i", c, number), api.ErrPrint)
			}
			checkCalls(t, middle(bad, c), api.ErrPrint)
		}
	}
}

// P9.1: then costs that are not valid.
func TestErrCosts(t *testing.T) {
	for _, c := range badCosts() {
		for _, p := range [][2]string{{"", ""}, {"ab", "ba"}, {strings.Repeat("a", 20), ""}} {
			for _, number := range []int{0, 1, -1, 1001, 1 << 62} {
				checkCalls(t, withFar(p[0], p[1], plainFar(p[0], p[1], costs(1, 1)), c, number), api.ErrCosts)
				checkCalls(t, withFar(p[0], p[1], nil, c, number), api.ErrCosts)
				checkCalls(t, withList(p[:], p[1], c, number), api.ErrCosts)
			}
			checkCalls(t, withCosts(p[0], p[1], c), api.ErrCosts)
			checkCalls(t, middle(p[:], c), api.ErrCosts)
			for _, l := range slices.Concat(badEdits(p[0], p[1]), [][]int{nil, {1}}) {
				checkCalls(t, withEdits(p[0], p[1], l, c)[2:], api.ErrCosts)
			}
		}
	}
}

// P9.1: then numbers and tables that are out of range.
func TestErrArg(t *testing.T) {
	for _, p := range [][2]string{{"", ""}, {"ab", "ba"}, {"abc", "a"}, {"", "hg"}, {strings.Repeat("a", 20), strings.Repeat("ab", 10)}} {
		good := plainFar(p[0], p[1], costs(1, 1))
		for _, number := range badNumbers() {
			checkCalls(t, withFar(p[0], p[1], good, costs(1, 1), number), api.ErrArg)
			checkCalls(t, withFar(p[0], p[1], nil, costs(1, 1), number), api.ErrArg)
			checkCalls(t, withList(p[:], p[1], costs(9, 9), number)[1:], api.ErrArg)
		}
		for _, far := range badFar(p[0], p[1]) {
			for _, n := range []int{0, 1, 1000} {
				checkCalls(t, withFar(p[0], p[1], far, costs(1, 1), n), api.ErrArg)
			}
		}
		for _, n := range []int{0, 1000} {
			check(t, "Proves", withFar(p[0], p[1], good, costs(1, 1), n)[0].err, api.OK, api.OK, api.OK)
			check(t, "Within", withList(p[:], p[1], costs(1, 1), n)[1].err, api.OK, api.OK, api.OK)
		}
	}
}

// P9.1: what is no edits comes last, and is no error of AreEdits.
func TestErrNone(t *testing.T) {
	for _, p := range [][2]string{{"", ""}, {"ab", "ba"}, {"abc", "a"}, {"", "hg"}, {strings.Repeat("a", 20), strings.Repeat("ab", 10)}} {
		for _, l := range badEdits(p[0], p[1]) {
			calls := withEdits(p[0], p[1], l, costs(9, 1))
			checkCalls(t, calls[:1], api.OK)
			checkCalls(t, calls[1:], api.ErrNone)
		}
	}
}

// R4: no argument is changed, and what lies beyond a list is not read.
func TestMemory(t *testing.T) {
	edits := []int{api.EditKeep, api.EditLeave, api.EditKeep, api.EditPut, api.EditKeep, 9}
	prints := []string{"abcd", "acbd", "i"}
	far := [][]int{{0, 2, 4, -1}, {2, 3, 2, -1}, {4, 2, 4, -1}, nil}
	rows := [][]int{far[0][:3], far[1][:3], far[2][:3], far[3]}
	calls := slices.Concat(withEdits("abcd", "acbd", edits[:5], costs(2, 3)), withFar("ab", "ba", rows[:3], costs(2, 3), 4), withList(prints[:2], "abc", costs(1, 1), 1))
	for _, c := range calls {
		if c.err != api.OK || c.zero {
			t.Errorf("%s: error %d, and the zero value: %v", c.name, c.err, c.zero)
		}
	}
	i, n, err := print.Middle(prints[1:2], costs(1, 1))
	check(t, "Middle", i+n, err, 0, api.OK)
	checkList(t, "the edits", edits, api.OK, []int{1, 3, 1, 4, 1, 9}, api.OK)
	checkList(t, "the prints", prints, api.OK, []string{"abcd", "acbd", "i"}, api.OK)
	check(t, "the far numbers", far, api.OK, [][]int{{0, 2, 4, -1}, {2, 3, 2, -1}, {4, 2, 4, -1}, nil}, api.OK)
	check(t, "the rows", rows, api.OK, [][]int{{0, 2, 4}, {2, 3, 2}, {4, 2, 4}, nil}, api.OK)
}

// R4: nil lists are the same as empty ones.
func TestNilLists(t *testing.T) {
	for _, l := range [][]int{nil, {}} {
		is, err := print.AreEdits("", "", l)
		check(t, "AreEdits", is, err, true, api.OK)
		n, err := print.CostOf("", "", l, costs(1, 1))
		check(t, "CostOf", n, err, 0, api.OK)
		undoing, err := print.Back("", "", l)
		checkList(t, "Back", undoing, err, nil, api.OK)
		checkCalls(t, withEdits("", "a", l, costs(1, 1))[1:], api.ErrNone)
		checkCalls(t, withFar("", "", [][]int{l}, costs(1, 1), 0), api.ErrArg)
	}
}

// spoil writes to all of a list, also beyond its length.
func spoil[E any](l []E, with E) {
	for i := range l[:cap(l)] {
		l[:cap(l)][i] = with
	}
}

// R4: what is done with a result changes neither an argument, nor another row of it, nor the next result.
func TestNewMemory(t *testing.T) {
	edits, prints := []int{1, 3, 1, 4, 1}, []string{"abcd", "acbd"}
	for range 2 {
		for _, x := range []struct {
			name string
			call func() ([]int, api.Errno)
			want []int
		}{
			{"Edits", func() ([]int, api.Errno) { return print.Edits("abcd", "acbd", costs(1, 2)) }, []int{1, 3, 1, 4, 1}},
			{"Back", func() ([]int, api.Errno) { return print.Back("abcd", "acbd", edits) }, []int{1, 4, 1, 3, 1}},
			{"Within", func() ([]int, api.Errno) { return print.Within(prints, "abcd", costs(1, 1), 2) }, []int{0, 1}},
		} {
			l, err := x.call()
			checkList(t, x.name, l, err, x.want, api.OK)
			spoil(l, 99)
		}
		far := must[[][]int](t, "Far")(print.Far("ab", "ba", costs(2, 3)))
		for i, want := range [][]int{{0, 2, 4}, {2, 3, 2}, {4, 2, 4}} {
			checkList(t, "a row of Far", far[i], api.OK, want, api.OK)
			spoil(far[i], 99)
		}
		spoil(far, nil)
	}
	checkList(t, "the edits", edits, api.OK, []int{1, 3, 1, 4, 1}, api.OK)
}

// R1: whatever the arguments are.
func TestNoPanic(t *testing.T) {
	source := rand.New(rand.NewPCG(9, 11))
	text := func() string {
		var l []byte
		for range source.IntN(24) {
			l = append(l, "abcdefghabcdefghabcdefghi"[source.IntN(25)])
		}
		return string(l)
	}
	for range 3000 {
		s, to, c := text(), text(), costs(source.IntN(11), source.IntN(11))
		var edits []int
		var far [][]int
		for range source.IntN(24) {
			edits = append(edits, source.IntN(6))
			far = append(far, make([]int, source.IntN(24)))
		}
		calls := slices.Concat(every(s, to, c, edits, far, source.IntN(1100)-50), withRow(s, to, text()), withList([]string{s, to, text()}, text(), c, source.IntN(1100)-50), middle([]string{s, to, text()}, c))
		for _, x := range calls {
			if x.err != api.OK && !x.zero {
				t.Errorf("%s of %q and %q: error %d, and not the zero value", x.name, s, to, x.err)
			}
		}
	}
}
