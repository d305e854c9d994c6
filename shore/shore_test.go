package shore_test

import (
	"slices"
	"testing"

	"skimmer/api"
	"skimmer/shore"
)

// two is the jobs of the chapter's examples.
func two() [][]api.Job { return [][]api.Job{beach(2, 6), beach(1, 1, 1, 9)} }

// P6.2: one beach and six, none with a job, twelve jobs, the least and the greatest Hours and Harm.
func TestValid(t *testing.T) {
	for _, j := range slices.Concat(all(), [][][]api.Job{{slices.Repeat(beach(100, 100), 12)}, {nil, nil, slices.Repeat(beach(1, 0), 12)}, slices.Repeat([][]api.Job{beach(1, 0)}, 6)}) {
		if !shore.Valid(j) {
			t.Errorf("%v are valid", j)
		}
	}
	for _, j := range badJobs() {
		if shore.Valid(j) {
			t.Errorf("%d beaches with %d jobs are not valid", len(j), jobsOf(j))
		}
	}
}

// P6.2: all lists with numbers from -1 to one that is too great, and not one longer than the jobs.
func TestIsOrder(t *testing.T) {
	for _, j := range few() {
		if n := jobsOf(j); n > 4 {
			continue
		}
		lists := [][]int{nil}
		for i := 0; i < len(lists); i++ {
			is, err := shore.IsOrder(j, lists[i])
			check(t, "IsOrder", is, err, plainIsOrder(j, lists[i]), api.OK)
			if len(lists[i]) > jobsOf(j) {
				continue
			}
			for beach := -1; beach <= len(j); beach++ {
				lists = append(lists, append(slices.Clone(lists[i]), beach))
			}
		}
	}
	for _, j := range all() {
		best := plainBest(j)
		for _, order := range [][]int{best, slices.Sorted(slices.Values(best))} {
			is, err := shore.IsOrder(j, order)
			check(t, "IsOrder", is, err, true, api.OK)
		}
		for _, order := range badOrders(j) {
			is, err := shore.IsOrder(j, order)
			check(t, "IsOrder", is, err, plainIsOrder(j, order), api.OK)
		}
	}
}

// P6.2: all orders of jobs with few of them, and the first and the last one of others.
func TestHarmAndDone(t *testing.T) {
	for _, j := range short() {
		for _, order := range plainOrders(j) {
			checkHarmAndDone(t, j, order)
		}
	}
	for _, j := range all() {
		order := plainBest(j)
		checkHarmAndDone(t, j, order)
		slices.Sort(order)
		checkHarmAndDone(t, j, order)
		slices.Reverse(order)
		checkHarmAndDone(t, j, order)
	}
}

func checkHarmAndDone(t *testing.T, j [][]api.Job, order []int) {
	t.Helper()
	harm, err := shore.Harm(j, order)
	check(t, "Harm", harm, err, plainHarm(j, order), api.OK)
	done, err := shore.Done(j, order)
	checkLists(t, "Done", done, err, plainDone(j, order), api.OK)
}

// P6.2: the example's orders, and jobs that are none.
func TestHarmAndDoneExamples(t *testing.T) {
	for _, x := range []struct {
		j     [][]api.Job
		order []int
		harm  int
		done  [][]int
	}{
		{two(), []int{1, 1, 0}, 43, [][]int{{4}, {1, 2}}},
		{two(), []int{1, 0, 1}, 55, [][]int{{3}, {1, 4}}},
		{two(), []int{0, 1, 1}, 51, [][]int{{2}, {3, 4}}},
		{[][]api.Job{nil, nil, nil}, nil, 0, [][]int{nil, nil, nil}},
		{[][]api.Job{nil, beach(5, 0), nil}, []int{1}, 0, [][]int{nil, {5}, nil}},
		{[][]api.Job{slices.Repeat(beach(100, 100), 12)}, make([]int, 12), 780000, [][]int{{100, 200, 300, 400, 500, 600, 700, 800, 900, 1000, 1100, 1200}}},
	} {
		harm, err := shore.Harm(x.j, x.order)
		check(t, "Harm", harm, err, x.harm, api.OK)
		done, err := shore.Done(x.j, x.order)
		checkLists(t, "Done", done, err, x.done, api.OK)
	}
}

// P6.2.
func TestHours(t *testing.T) {
	for _, j := range all() {
		want := 0
		for _, job := range slices.Concat(j...) {
			want += job.Hours
		}
		hours, err := shore.Hours(j)
		check(t, "Hours", hours, err, want, api.OK)
	}
	for _, x := range []struct {
		j    [][]api.Job
		want int
	}{{two(), 4}, {[][]api.Job{nil}, 0}, {[][]api.Job{slices.Repeat(beach(100, 0), 12)}, 1200}, {[][]api.Job{beach(1, 100)}, 1}} {
		hours, err := shore.Hours(x.j)
		check(t, "Hours", hours, err, x.want, api.OK)
	}
}

// P6.3: also jobs without Harm, and rates that are the same.
func TestBest(t *testing.T) {
	for _, j := range all() {
		order, err := shore.Best(j)
		checkList(t, "Best", order, err, plainBest(j), api.OK)
	}
	for _, x := range []struct {
		j    [][]api.Job
		want []int
	}{
		{two(), []int{1, 1, 0}},
		{[][]api.Job{nil, nil}, nil},
		{[][]api.Job{nil, beach(1, 0)}, []int{1}},
		// Of several leads that have the greatest rate, that of the least number is done, whole, and then the next ones are compared.
		{[][]api.Job{beach(1, 2), beach(1, 2), beach(2, 4)}, []int{0, 1, 2}},
		{[][]api.Job{beach(3, 6), beach(1, 1, 1, 3), beach(1, 2)}, []int{0, 1, 1, 2}},
		{[][]api.Job{beach(1, 1), beach(1, 2, 1, 1), beach(1, 2)}, []int{1, 2, 0, 1}},
		{[][]api.Job{beach(1, 0), beach(2, 0, 1, 0), beach(5, 0)}, []int{0, 1, 1, 2}},
		{[][]api.Job{beach(1, 0, 1, 7), beach(2, 3), beach(4, 0)}, []int{0, 0, 1, 2}},
		// Two thirds are more than 65 hundredths, and less than 67.
		{[][]api.Job{beach(3, 2), beach(100, 65)}, []int{0, 1}},
		{[][]api.Job{beach(3, 2), beach(100, 67)}, []int{1, 0}},
		// The first job alone, though a longer piece is better than the other beach.
		{[][]api.Job{beach(1, 9, 1, 5), beach(1, 6)}, []int{0, 1, 0}},
	} {
		order, err := shore.Best(x.j)
		checkList(t, "Best", order, err, x.want, api.OK)
	}
}

// P6.3: against all orders.
func TestLeastAndWorst(t *testing.T) {
	for _, j := range all() {
		least, most := extremes(j)
		checkLeastAndWorst(t, j, least, most)
	}
	for _, x := range []struct {
		j           [][]api.Job
		least, most int
	}{
		{two(), 43, 55},
		{[][]api.Job{nil, nil}, 0, 0},
		{[][]api.Job{beach(1, 0), beach(7, 0, 3, 0)}, 0, 0},
		{[][]api.Job{beach(100, 100)}, 10000, 10000},
		{[][]api.Job{beach(1, 1), beach(1, 1)}, 3, 3},
		{[][]api.Job{beach(1, 100), beach(100, 0)}, 100, 10100},
		{slices.Repeat([][]api.Job{beach(1, 1, 1, 1)}, 6), 78, 78},
		{[][]api.Job{slices.Repeat(beach(100, 100), 12)}, 780000, 780000},
	} {
		checkLeastAndWorst(t, x.j, x.least, x.most)
	}
}

func checkLeastAndWorst(t *testing.T, j [][]api.Job, least, most int) {
	t.Helper()
	got, err := shore.Least(j)
	check(t, "Least", got, err, least, api.OK)
	got, err = shore.Worst(j)
	check(t, "Worst", got, err, most, api.OK)
}

// P6.4.
func TestBound(t *testing.T) {
	for _, j := range all() {
		bound, err := shore.Bound(j)
		check(t, "Bound", bound, err, plainBound(j), api.OK)
	}
	for _, x := range []struct {
		j    [][]api.Job
		want int
	}{{two(), 39}, {[][]api.Job{nil, nil}, 0}, {[][]api.Job{beach(3, 0)}, 0}, {[][]api.Job{beach(3, 5)}, 15}, {[][]api.Job{beach(3, 5, 2, 7)}, 50}, {[][]api.Job{beach(3, 5), beach(2, 7)}, 39}, {[][]api.Job{beach(2, 7), beach(3, 5)}, 39}} {
		bound, err := shore.Bound(x.j)
		check(t, "Bound", bound, err, x.want, api.OK)
	}
}

// P6.4: the lead from each job on.
func TestLead(t *testing.T) {
	for _, j := range all() {
		for b, l := range j {
			for from := range l {
				wantLast, wantRate := plainLead(l, from)
				last, rate, err := shore.Lead(j, b, from)
				check(t, "Lead", last, err, wantLast, api.OK)
				check(t, "the rate of Lead", rate, err, wantRate, api.OK)
			}
		}
	}
}

// P6.4: rates that are the same on one beach, in lowest terms, and 0/1.
func TestLeadExamples(t *testing.T) {
	for _, x := range []struct {
		l          []api.Job
		from, last int
		n, d       int
	}{
		{beach(1, 1, 1, 9), 0, 1, 5, 1}, {beach(1, 1, 1, 9), 1, 1, 9, 1}, {beach(2, 6), 0, 0, 3, 1},
		{beach(7, 0), 0, 0, 0, 1}, {beach(7, 0, 9, 0), 0, 1, 0, 1}, {beach(9, 9, 7, 0), 1, 1, 0, 1},
		{beach(2, 2, 3, 3), 0, 1, 1, 1}, {beach(2, 4, 3, 5, 1, 3), 0, 2, 2, 1}, {beach(2, 4, 3, 5, 1, 2), 0, 0, 2, 1},
		{beach(4, 6), 0, 0, 3, 2}, {beach(6, 4), 0, 0, 2, 3}, {beach(100, 100), 0, 0, 1, 1}, {beach(100, 99), 0, 0, 99, 100}, {beach(4, 1, 2, 3), 0, 1, 2, 3},
		{slices.Repeat(beach(100, 50), 12), 0, 11, 1, 2}, {slices.Repeat(beach(100, 50), 12), 7, 11, 1, 2},
		{beach(1, 3, 1, 1, 1, 5), 0, 2, 3, 1}, {beach(1, 3, 1, 1, 1, 4), 0, 0, 3, 1}, {beach(1, 3, 1, 1, 1, 6), 0, 2, 10, 3}, {beach(1, 1, 1, 3, 1, 0, 1, 4, 1, 1), 0, 3, 2, 1},
	} {
		for _, j := range [][][]api.Job{{x.l}, {nil, x.l, nil}} {
			last, rate, err := shore.Lead(j, len(j)/2, x.from)
			check(t, "Lead", last, err, x.last, api.OK)
			check(t, "the rate of Lead", rate, err, api.Ratio{N: x.n, D: x.d}, api.OK)
		}
	}
}

// badPlaces are no indices of a list with so many elements.
func badPlaces(n int) []int {
	return []int{-1, -2, n, n + 1, -1 << 63, 1 << 62}
}

// P6.4: no such beach, or job.
func TestLeadNone(t *testing.T) {
	for _, j := range all() {
		for _, b := range badPlaces(len(j)) {
			last, rate, err := shore.Lead(j, b, 0)
			check(t, "Lead", last, err, 0, api.ErrArg)
			check(t, "the rate of Lead", rate, err, api.Ratio{}, api.ErrArg)
		}
		for b, l := range j {
			for _, from := range badPlaces(len(l)) {
				last, rate, err := shore.Lead(j, b, from)
				check(t, "Lead", last, err, 0, api.ErrArg)
				check(t, "the rate of Lead", rate, err, api.Ratio{}, api.ErrArg)
			}
		}
	}
}

// P6.5: at each place of each order.
func TestSwap(t *testing.T) {
	for _, j := range short() {
		for _, order := range plainOrders(j) {
			for at := range max(len(order)-1, 0) {
				want, wantErr := slices.Clone(order), api.OK
				want[at], want[at+1] = want[at+1], want[at]
				by := plainHarm(j, want) - plainHarm(j, order)
				if order[at] == order[at+1] {
					want, by, wantErr = nil, 0, api.ErrNone
				}
				checkSwap(t, j, order, at, want, by, wantErr)
			}
			for _, at := range append(badPlaces(len(order)), len(order)-1) {
				checkSwap(t, j, order, at, nil, 0, api.ErrArg)
			}
		}
	}
}

func checkSwap(t *testing.T, j [][]api.Job, order []int, at int, want []int, wantBy int, wantErr api.Errno) {
	t.Helper()
	l, by, err := shore.Swap(j, order, at)
	checkList(t, "Swap", l, err, want, wantErr)
	check(t, "how much greater Swap is", by, err, wantBy, wantErr)
}

// P6.5: harm that is greater, less and no different.
func TestSwapExamples(t *testing.T) {
	checkSwap(t, two(), []int{1, 1, 0}, 1, []int{1, 0, 1}, 12, api.OK)
	checkSwap(t, two(), []int{1, 0, 1}, 1, []int{1, 1, 0}, -12, api.OK)
	checkSwap(t, two(), []int{1, 0, 1}, 0, []int{0, 1, 1}, -4, api.OK)
	checkSwap(t, two(), []int{1, 1, 0}, 0, nil, 0, api.ErrNone)
	checkSwap(t, [][]api.Job{beach(2, 4), beach(1, 2)}, []int{0, 1}, 0, []int{1, 0}, 0, api.OK)
	checkSwap(t, [][]api.Job{beach(2, 0), beach(1, 0)}, []int{1, 0}, 0, []int{0, 1}, 0, api.OK)
	checkSwap(t, [][]api.Job{beach(100, 0), beach(1, 100)}, []int{1, 0}, 0, []int{0, 1}, 10000, api.OK)
	checkSwap(t, [][]api.Job{beach(1, 1)}, []int{0}, 0, nil, 0, api.ErrArg)
	checkSwap(t, [][]api.Job{nil}, nil, 0, nil, 0, api.ErrArg)
	checkSwap(t, [][]api.Job{nil}, nil, -1, nil, 0, api.ErrArg)
}

// P6.5: the first order, each next one, and the last.
func TestNext(t *testing.T) {
	for _, j := range short() {
		orders := plainOrders(j)
		for i, order := range orders {
			next, err := shore.Next(j, order)
			if i < len(orders)-1 {
				checkList(t, "Next", next, err, orders[i+1], api.OK)
			} else {
				checkList(t, "Next", next, err, nil, api.ErrNone)
			}
		}
	}
	twelve := slices.Repeat([][]api.Job{beach(1, 1, 1, 1)}, 6)
	for _, x := range []struct {
		order, want []int
		err         api.Errno
	}{
		{[]int{0, 0, 1, 1, 2, 2, 3, 3, 4, 4, 5, 5}, []int{0, 0, 1, 1, 2, 2, 3, 3, 4, 5, 4, 5}, api.OK},
		{[]int{0, 1, 0, 5, 5, 4, 4, 3, 3, 2, 2, 1}, []int{0, 1, 1, 0, 2, 2, 3, 3, 4, 4, 5, 5}, api.OK},
		{[]int{0, 5, 5, 4, 4, 3, 3, 2, 2, 1, 1, 0}, []int{1, 0, 0, 1, 2, 2, 3, 3, 4, 4, 5, 5}, api.OK},
		{[]int{5, 5, 4, 4, 3, 3, 2, 2, 1, 0, 1, 0}, []int{5, 5, 4, 4, 3, 3, 2, 2, 1, 1, 0, 0}, api.OK},
		{[]int{5, 5, 4, 4, 3, 3, 2, 2, 1, 1, 0, 0}, nil, api.ErrNone},
	} {
		next, err := shore.Next(twelve, x.order)
		checkList(t, "Next", next, err, x.want, x.err)
	}
}

// P6.6.
func TestNumber(t *testing.T) {
	for _, j := range all() {
		n, err := shore.Number(j)
		check(t, "Number", n, err, plainNumber(j), api.OK)
	}
	for _, j := range short() {
		n, err := shore.Number(j)
		check(t, "Number", n, err, len(plainOrders(j)), api.OK)
	}
	for _, x := range []struct {
		j    [][]api.Job
		want int
	}{
		{two(), 3}, {[][]api.Job{nil}, 1}, {make([][]api.Job, 6), 1}, {[][]api.Job{slices.Repeat(beach(1, 1), 12)}, 1},
		{slices.Repeat([][]api.Job{beach(1, 1, 1, 1)}, 6), 7484400}, {slices.Repeat([][]api.Job{beach(1, 1)}, 6), 720}, {[][]api.Job{slices.Repeat(beach(1, 1), 6), slices.Repeat(beach(1, 1), 6)}, 924},
	} {
		n, err := shore.Number(x.j)
		check(t, "Number", n, err, x.want, api.OK)
	}
}

// P6.6: jobs that cannot be freed are none, or too many.
func TestFree(t *testing.T) {
	for _, j := range all() {
		var want [][]api.Job
		for _, job := range slices.Concat(j...) {
			want = append(want, []api.Job{job})
		}
		wantErr := api.OK
		if len(want) == 0 || len(want) > 6 {
			want, wantErr = nil, api.ErrNone
		}
		free, err := shore.Free(j)
		checkLists(t, "Free", free, err, want, wantErr)
	}
	for _, x := range []struct {
		j, want [][]api.Job
		err     api.Errno
	}{
		{two(), [][]api.Job{beach(2, 6), beach(1, 1), beach(1, 9)}, api.OK},
		{[][]api.Job{nil, beach(3, 0), nil}, [][]api.Job{beach(3, 0)}, api.OK},
		{[][]api.Job{beach(1, 2, 3, 4, 5, 6, 7, 8, 9, 10, 11, 12)}, [][]api.Job{beach(1, 2), beach(3, 4), beach(5, 6), beach(7, 8), beach(9, 10), beach(11, 12)}, api.OK},
		{[][]api.Job{beach(1, 2, 3, 4, 5, 6, 7, 8, 9, 10, 11, 12, 13, 14)}, nil, api.ErrNone},
		{[][]api.Job{beach(1, 1, 1, 1, 1, 1, 1, 1, 1, 1, 1, 1), beach(1, 1)}, nil, api.ErrNone},
		{[][]api.Job{nil}, nil, api.ErrNone}, {make([][]api.Job, 6), nil, api.ErrNone},
	} {
		free, err := shore.Free(x.j)
		checkLists(t, "Free", free, err, x.want, x.err)
	}
}

// P6.6: jobs that cannot be turned have no Harm somewhere.
func TestTurned(t *testing.T) {
	for _, j := range all() {
		want, wantErr := make([][]api.Job, len(j)), api.OK
		for b, l := range j {
			for i := len(l) - 1; i >= 0; i-- {
				want[b] = append(want[b], api.Job{Hours: l[i].Harm, Harm: l[i].Hours})
			}
		}
		if slices.ContainsFunc(slices.Concat(j...), func(job api.Job) bool { return job.Harm == 0 }) {
			want, wantErr = nil, api.ErrNone
		}
		turned, err := shore.Turned(j)
		checkLists(t, "Turned", turned, err, want, wantErr)
	}
	for _, x := range []struct {
		j, want [][]api.Job
		err     api.Errno
	}{
		{two(), [][]api.Job{beach(6, 2), beach(9, 1, 1, 1)}, api.OK},
		{[][]api.Job{nil, nil}, [][]api.Job{nil, nil}, api.OK},
		{[][]api.Job{nil, beach(1, 100, 100, 1, 2, 3)}, [][]api.Job{nil, beach(3, 2, 1, 100, 100, 1)}, api.OK},
		{[][]api.Job{beach(1, 0)}, nil, api.ErrNone},
		{[][]api.Job{beach(1, 1, 2, 2), beach(3, 3), beach(4, 4, 5, 0, 6, 6)}, nil, api.ErrNone},
	} {
		turned, err := shore.Turned(x.j)
		checkLists(t, "Turned", turned, err, x.want, x.err)
	}
}
