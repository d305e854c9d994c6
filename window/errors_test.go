package window_test

import (
	"math"
	"reflect"
	"slices"
	"testing"

	"skimmer/api"
	"skimmer/window"
)

// call is a call of a function with whatever arguments: its name, the error and whether the result is its zero value.
type call struct {
	name string
	err  api.Errno
	zero bool
}

func called[R any](name string, got R, err api.Errno) call {
	return call{name, err, reflect.ValueOf(got).IsZero()}
}

// withHour calls the functions that take a window that may be wide and an hour or a shift.
func withHour(w api.Window, hour int) []call {
	is, err := window.Open(w, hour)
	next, err2 := window.Next(w, hour)
	shifted, err3 := window.Shifted(w, hour)
	return []call{called("Open", is, err), called("Next", next, err2), called("Shifted", shifted, err3)}
}

// alone calls the functions that take nothing but a window that may be wide, or two.
func alone(w api.Window) []call {
	not, err := window.Not(w)
	plain, err2 := window.Plain(w)
	part, err3 := window.Part(w)
	from, hours, err4 := window.Longest(w)
	same, err5 := window.Same(w, six)
	same2, err6 := window.Same(six, w)
	return []call{called("Not", not, err), called("Plain", plain, err2), called("Part", part, err3), called("Longest", [2]int{from, hours}, err4), called("Same", same, err5), called("Same", same2, err6)}
}

// two calls the functions that take two windows that may not be wide.
func two(w api.Window) []call {
	both, err := window.Both(w, six)
	both2, err2 := window.Both(six, w)
	either, err3 := window.Either(w, six)
	either2, err4 := window.Either(six, w)
	return []call{called("Both", both, err), called("Both", both2, err2), called("Either", either, err3), called("Either", either2, err4)}
}

// together calls the functions that take windows together.
func together(l []api.Window, hour int) []call {
	first, err := window.First(l, hour)
	n, period, err2 := window.Number(l)
	return []call{called("First", first, err), called("Number", [2]int{n, period}, err2)}
}

// withRounds calls the functions that take rounds.
func withRounds(l []api.Round, i, k, hour int) []call {
	at, every, err := window.Meet(l)
	one, other, err2 := window.Never(l)
	is, err3 := window.IsNever(l, i, k)
	hits, err4 := window.Hits(l, hour)
	return []call{called("Meet", [2]int{at, every}, err), called("Never", [2]int{one, other}, err2), called("IsNever", is, err3), called("Hits", hits, err4)}
}

func checkCalls(t *testing.T, calls []call, want api.Errno) {
	t.Helper()
	for _, c := range calls {
		if c.err != want || !c.zero {
			t.Errorf("%s: error %d, want %d, and the zero value: %v", c.name, c.err, want, c.zero)
		}
	}
}

// badHours are no hours from 0 to 10^9.
func badHours() []int {
	return []int{-1, -6, farthest + 1, farthest + 6, 1 << 40, math.MaxInt, math.MinInt}
}

// P5.1: a window that is not valid comes first, whatever else is wrong.
func TestErrWindow(t *testing.T) {
	for _, w := range badWindows() {
		checkCalls(t, slices.Concat(alone(w), two(w)), api.ErrWindow)
		for _, hour := range append(badHours(), 0, 1) {
			checkCalls(t, withHour(w, hour), api.ErrWindow)
			for _, l := range [][]api.Window{{w}, {w, six}, {six, six, six, w}, {six, six, six, six, w}, {w, six, six, six, six}, {win(59), win(58), win(57), w}, {w, win(1)}} {
				checkCalls(t, together(l, hour), api.ErrWindow)
			}
		}
	}
}

// P5.1: a window that is wide is not valid where none may be.
func TestErrWide(t *testing.T) {
	for _, w := range wide() {
		checkCalls(t, two(w), api.ErrWindow)
		checkCalls(t, slices.Concat(together([]api.Window{w}, 0), together([]api.Window{six, six, six, six, w}, -1), together([]api.Window{win(1), w}, 0)), api.ErrWindow)
		for _, c := range slices.Concat(withHour(w, 5), alone(w)) {
			if c.err == api.ErrWindow {
				t.Errorf("%s of a wide window: error %d", c.name, c.err)
			}
		}
	}
}

// P5.1: hours that are out of range come in front of what there is not.
func TestErrArgHours(t *testing.T) {
	for _, hour := range badHours() {
		for _, w := range []api.Window{six, win(1, 0), win(6), win(60), win(3600), win(3600, 0)} {
			checkCalls(t, withHour(w, hour)[:2], api.ErrArg)
		}
		for _, l := range [][]api.Window{{six}, {win(1)}, {win(2, 0), win(2, 1)}, {win(59, 0), win(58, 0), win(57, 0)}, nil, slices.Repeat([]api.Window{six}, 5)} {
			checkCalls(t, together(l, hour)[:1], api.ErrArg)
		}
	}
	for _, by := range badShifts {
		for _, w := range []api.Window{six, win(1, 0), win(6), win(3600, 5)} {
			checkCalls(t, withHour(w, by)[2:], api.ErrArg)
		}
	}
}

// P5.1, P5.5: lists that are nil or too long, of whatever windows.
func TestErrArgLists(t *testing.T) {
	never, great := []api.Window{win(1)}, []api.Window{win(59), win(58), win(57), win(55), win(53)}
	for _, l := range [][]api.Window{nil, {}, slices.Repeat([]api.Window{six}, 5), slices.Repeat(never, 5), slices.Repeat([]api.Window{win(1, 0)}, 6), slices.Repeat([]api.Window{six}, 100000), great, slices.Repeat(great, 1000)} {
		checkCalls(t, together(l, 0), api.ErrArg)
	}
}

// P5.1, P5.5: the limit comes in front of what there is not, and that is last.
func TestErrLimitAndNone(t *testing.T) {
	checkCalls(t, together([]api.Window{win(59), win(58), win(57)}, 0), api.ErrLimit)
	checkCalls(t, together([]api.Window{win(59, 0), win(58, 0), win(57, 0), win(1)}, farthest), api.ErrLimit)
	checkCalls(t, together([]api.Window{win(4, 1), win(6, 2)}, farthest)[:1], api.ErrNone)
	checkCalls(t, withHour(win(3600), 0)[1:2], api.ErrNone)
	checkCalls(t, alone(made(3600, func(int) bool { return true }))[3:4], api.ErrNone)
	checkCalls(t, withRounds(three, 0, 1, 0)[1:2], api.ErrNone)
	checkCalls(t, withRounds(four, 0, 1, 0)[:1], api.ErrNone)
}

// P5.1: rounds that are not valid come first, lists that are nil or too long among them.
func TestErrRound(t *testing.T) {
	for _, l := range badRounds() {
		for _, pair := range append(badPairs(), [2]int{0, 1}) {
			checkCalls(t, withRounds(l, pair[0], pair[1], pair[0]), api.ErrRound)
		}
	}
}

// P5.1, P5.6: pairs that are none of the list, and hours below 0, come next.
func TestErrArgRounds(t *testing.T) {
	for _, l := range [][]api.Round{four, slices.Concat(three, three[:1])} {
		for _, pair := range badPairs() {
			checkCalls(t, withRounds(l, pair[0], pair[1], -1)[2:], api.ErrArg)
		}
	}
	checkCalls(t, withRounds(three[:1], 0, 0, -1)[2:], api.ErrArg)
	checkCalls(t, withRounds(three[:1], 0, 1, -3)[2:], api.ErrArg)
}

// R4: no argument is changed, and what lies beyond a list is not read.
func TestMemory(t *testing.T) {
	hours, rounds, windows := []int{0, 2, 3, 5, 5, -1}, []api.Round{round(2, 3), round(3, 5), round(9, 2), {}}, []api.Window{win(3, 0, 1), win(4, 1, 2), win(0), {}}
	w := api.Window{Period: 6, Hours: hours[:4]}
	for _, calls := range [][]call{withHour(w, 1), alone(w), two(w), together(windows[:2], 3), together([]api.Window{w}, 0), withRounds(rounds[:2], 0, 1, 8)[:1], withRounds(rounds[:2], 0, 1, 8)[2:]} {
		for _, c := range calls {
			if c.err != api.OK {
				t.Errorf("%s: error %d", c.name, c.err)
			}
		}
	}
	if !slices.Equal(hours, []int{0, 2, 3, 5, 5, -1}) || !slices.Equal(rounds, []api.Round{round(2, 3), round(3, 5), round(9, 2), {}}) || !reflect.DeepEqual(windows, []api.Window{win(3, 0, 1), win(4, 1, 2), win(0), {}}) {
		t.Errorf("an argument is changed: %v, %v, %v", hours, rounds, windows)
	}
}

// R4: what is done with a result changes neither an argument nor the next result.
func TestNewMemory(t *testing.T) {
	three := win(3, 0, 2)
	for range 2 {
		for _, x := range []struct {
			name string
			call func() (api.Window, api.Errno)
			want api.Window
		}{
			{"Both", func() (api.Window, api.Errno) { return window.Both(three, three) }, win(3, 0, 2)},
			{"Either", func() (api.Window, api.Errno) { return window.Either(three, win(1)) }, win(3, 0, 2)},
			{"Not", func() (api.Window, api.Errno) { return window.Not(three) }, win(3, 1)},
			{"Shifted", func() (api.Window, api.Errno) { return window.Shifted(three, 0) }, win(3, 0, 2)},
			{"Plain", func() (api.Window, api.Errno) { return window.Plain(three) }, win(3, 0, 2)},
		} {
			got, err := x.call()
			checkWindow(t, x.name, got, err, x.want, api.OK)
			for i := range got.Hours[:cap(got.Hours)] {
				got.Hours[:cap(got.Hours)][i] = 99
			}
		}
	}
	checkWindow(t, "the argument", three, api.OK, win(3, 0, 2), api.OK)
}
