package shore_test

import (
	"reflect"
	"slices"
	"testing"

	"skimmer/api"
	"skimmer/shore"
)

// call is a call of a function with whatever arguments: its name, the error and whether the result is its zero value.
type call struct {
	name string
	err  api.Errno
	zero bool
}

func called[R any](name string, got R, err api.Errno) call {
	v := reflect.ValueOf(got)
	return call{name, err, v.IsZero() || v.Kind() == reflect.Slice && v.Len() == 0}
}

// alone calls the functions that take jobs alone.
func alone(j [][]api.Job) []call {
	best, err := shore.Best(j)
	least, err2 := shore.Least(j)
	bound, err3 := shore.Bound(j)
	n, err4 := shore.Number(j)
	worst, err5 := shore.Worst(j)
	hours, err6 := shore.Hours(j)
	return []call{called("Best", best, err), called("Least", least, err2), called("Bound", bound, err3), called("Number", n, err4), called("Worst", worst, err5), called("Hours", hours, err6)}
}

// made calls the functions that make jobs of jobs.
func made(j [][]api.Job) []call {
	free, err := shore.Free(j)
	turned, err2 := shore.Turned(j)
	return []call{called("Free", free, err), called("Turned", turned, err2)}
}

// withOrder calls the functions that take an order.
func withOrder(j [][]api.Job, order []int, at int) []call {
	harm, err := shore.Harm(j, order)
	done, err2 := shore.Done(j, order)
	l, by, err3 := shore.Swap(j, order, at)
	next, err4 := shore.Next(j, order)
	return []call{called("Harm", harm, err), called("Done", done, err2), called("Swap", l, err3), called("Swap", by, err3), called("Next", next, err4)}
}

// withPlaces calls the function that takes a beach and a job of it.
func withPlaces(j [][]api.Job, beach, from int) []call {
	last, rate, err := shore.Lead(j, beach, from)
	return []call{called("Lead", last, err), called("Lead", rate, err)}
}

// asked calls the function that takes an order which may be none.
func asked(j [][]api.Job, order []int) []call {
	is, err := shore.IsOrder(j, order)
	return []call{called("IsOrder", is, err)}
}

func checkCalls(t *testing.T, calls []call, want api.Errno) {
	t.Helper()
	for _, c := range calls {
		if c.err != want || !c.zero {
			t.Errorf("%s: error %d, want %d, and the zero value: %v", c.name, c.err, want, c.zero)
		}
	}
}

// P6.1: jobs that are not valid come first, whatever else is wrong.
func TestErrJobs(t *testing.T) {
	for _, j := range badJobs() {
		checkCalls(t, slices.Concat(alone(j), made(j)), api.ErrJobs)
		first := slices.Repeat([]int{0}, min(jobsOf(j), 20))
		for _, order := range [][]int{nil, {0}, {0, 0, 0}, {9}, {-1, 1}, {0, 1, 1}, make([]int, 101), first} {
			checkCalls(t, asked(j, order), api.ErrJobs)
			for _, at := range []int{0, 1, -1, 5} {
				checkCalls(t, withOrder(j, order, at), api.ErrJobs)
			}
		}
		for _, places := range [][2]int{{0, 0}, {-1, 0}, {0, -1}, {9, 9}, {1, 1}} {
			checkCalls(t, withPlaces(j, places[0], places[1]), api.ErrJobs)
		}
	}
}

// P6.1: orders that are none come next, in front of places that are out of range.
func TestErrOrder(t *testing.T) {
	for _, j := range slices.Concat(few(), many()) {
		for _, order := range badOrders(j) {
			if plainIsOrder(j, order) {
				continue
			}
			for _, at := range []int{0, 1, -1, len(order), len(order) - 1} {
				checkCalls(t, withOrder(j, order, at), api.ErrOrder)
			}
			checkCalls(t, asked(j, order), api.OK)
		}
	}
}

// P6.1: places come in front of what there is not.
func TestErrArgAndNone(t *testing.T) {
	for _, order := range [][]int{{0, 0}, {0, 0, 0, 0}} {
		j := [][]api.Job{slices.Repeat(beach(1, 0), len(order))}
		for _, at := range append(badPlaces(len(order)), len(order)-1) {
			checkCalls(t, withOrder(j, order, at)[2:4], api.ErrArg)
		}
		checkCalls(t, withOrder(j, order, len(order)-2)[2:], api.ErrNone)
		checkCalls(t, made(j)[1:], api.ErrNone)
	}
	checkCalls(t, withPlaces([][]api.Job{beach(1, 1), nil}, 1, 0), api.ErrArg)
	checkCalls(t, made(make([][]api.Job, 6))[:1], api.ErrNone)
	checkCalls(t, made(slices.Repeat([][]api.Job{beach(1, 0, 1, 0)}, 6)), api.ErrNone)
}

// R4: no argument is changed, and what lies beyond a list is not read.
func TestMemory(t *testing.T) {
	one := append(beach(1, 1, 1, 9), api.Job{Hours: -1})
	lists, order := [][]api.Job{beach(2, 6), one[:2], {{}}, nil}, []int{1, 0, 1, 9, -1}
	j := lists[:2]
	calls := slices.Concat(alone(j), made(j), withOrder(j, order[:3], 1), withPlaces(j, 1, 0))
	for _, c := range calls {
		if c.err != api.OK || c.zero {
			t.Errorf("%s: error %d, and the zero value: %v", c.name, c.err, c.zero)
		}
	}
	is, err := shore.IsOrder(j, order[:3])
	check(t, "IsOrder", is, err, true, api.OK)
	checkLists(t, "the jobs", lists, api.OK, [][]api.Job{beach(2, 6), beach(1, 1, 1, 9), {{}}, nil}, api.OK)
	checkList(t, "what is beyond a beach", one, api.OK, append(beach(1, 1, 1, 9), api.Job{Hours: -1}), api.OK)
	checkList(t, "the order", order, api.OK, []int{1, 0, 1, 9, -1}, api.OK)
}

// spoil writes to all of a list, also beyond its length.
func spoil[E any](l []E, with E) {
	for i := range l[:cap(l)] {
		l[:cap(l)][i] = with
	}
}

// R4: what is done with a result changes neither an argument, nor the rest of the result, nor the next one.
func TestNewMemory(t *testing.T) {
	j, order := two(), []int{1, 1, 0}
	for range 2 {
		done, err := shore.Done(j, order)
		for b, want := range [][]int{{4}, {1, 2}} {
			checkList(t, "Done", done[b], err, want, api.OK)
			spoil(done[b], 99)
		}
		free, err := shore.Free(j)
		for b, want := range [][]api.Job{beach(2, 6), beach(1, 1), beach(1, 9)} {
			checkList(t, "Free", free[b], err, want, api.OK)
			spoil(free[b], api.Job{})
		}
		turned, err := shore.Turned(j)
		for b, want := range [][]api.Job{beach(6, 2), beach(9, 1, 1, 1)} {
			checkList(t, "Turned", turned[b], err, want, api.OK)
			spoil(turned[b], api.Job{})
		}
		l, _, err := shore.Swap(j, order, 1)
		checkList(t, "Swap", l, err, []int{1, 0, 1}, api.OK)
		spoil(l, 99)
		l, err = shore.Best(j)
		checkList(t, "Best", l, err, []int{1, 1, 0}, api.OK)
		spoil(l, 99)
		l, err = shore.Next(j, []int{0, 1, 1})
		checkList(t, "Next", l, err, []int{1, 0, 1}, api.OK)
		spoil(l, 99)
	}
	checkLists(t, "the jobs", j, api.OK, two(), api.OK)
	checkList(t, "the order", order, api.OK, []int{1, 1, 0}, api.OK)
}
