package shore_test

import (
	"math/rand/v2"
	"reflect"
	"slices"
	"testing"

	"skimmer/api"
)

// This file has what the other tests share: jobs, and the chapter's terms told word by word, to compare with.

// check compares a result and its error with those wanted.
func check[R any](t *testing.T, name string, got R, err api.Errno, want R, wantErr api.Errno) {
	t.Helper()
	if err != wantErr || !reflect.DeepEqual(got, want) {
		t.Errorf("%s: %v, error %d, want %v, error %d", name, got, err, want, wantErr)
	}
}

// checkList is check for lists, where nil and empty are the same.
func checkList[R comparable](t *testing.T, name string, got []R, err api.Errno, want []R, wantErr api.Errno) {
	t.Helper()
	if err != wantErr || !slices.Equal(got, want) {
		t.Errorf("%s: %v, error %d, want %v, error %d", name, got, err, want, wantErr)
	}
}

// checkLists is check for lists of lists, of which each may be nil or empty.
func checkLists[R comparable](t *testing.T, name string, got [][]R, err api.Errno, want [][]R, wantErr api.Errno) {
	t.Helper()
	if err != wantErr || !slices.EqualFunc(got, want, slices.Equal[[]R]) {
		t.Errorf("%s: %v, error %d, want %v, error %d", name, got, err, want, wantErr)
	}
}

// must returns a result that has no error.
func must[R any](t *testing.T, name string) func(got R, err api.Errno) R {
	return func(got R, err api.Errno) R {
		t.Helper()
		if err != api.OK {
			t.Fatalf("%s: error %d", name, err)
		}
		return got
	}
}

// beach returns a beach: Hours and Harm of each job in turn.
func beach(l ...int) []api.Job {
	var jobs []api.Job
	for i := 0; i < len(l); i += 2 {
		jobs = append(jobs, api.Job{Hours: l[i], Harm: l[i+1]})
	}
	return jobs
}

// few returns jobs of all kinds with few orders.
func few() [][][]api.Job {
	return [][][]api.Job{
		{beach(2, 6), beach(1, 1, 1, 9)},
		{nil}, {nil, nil}, make([][]api.Job, 6), {{}, nil},
		{beach(1, 0)}, {beach(100, 100)}, {beach(1, 100)}, {beach(100, 0)},
		{beach(3, 1, 1, 3, 2, 2)}, {nil, beach(3, 1, 1, 3, 2, 2), nil}, {beach(1, 1), nil, beach(2, 1)},
		// Twelve jobs of one beach, and eleven with one of another beach.
		{beach(1, 1, 2, 3, 3, 1, 4, 9, 5, 0, 6, 4, 7, 7, 8, 2, 9, 9, 10, 1, 11, 30, 12, 12)},
		{slices.Repeat(beach(2, 3), 11), beach(3, 5)},
		// Rates that are the same on one beach and on two.
		{beach(1, 2, 2, 4, 1, 1, 1, 3, 9, 0), nil, beach(3, 6)},
		{beach(1, 2), beach(1, 2), beach(2, 4)}, {beach(3, 6), beach(1, 1, 1, 3), beach(1, 2)},
		{beach(1, 1), beach(1, 2, 1, 1), beach(1, 2)}, {beach(2, 2, 1, 1, 3, 3), beach(1, 1, 4, 4)},
		// No Harm at all, and some jobs without any.
		{beach(1, 0, 2, 0), beach(3, 0)}, {beach(1, 0), beach(2, 0, 1, 0), beach(5, 0)}, {beach(1, 0, 1, 7), beach(2, 3), beach(4, 0)}, {beach(9, 0, 9, 0, 9, 50), beach(1, 1, 1, 0)},
		// Six beaches with a job each, and with some.
		{beach(1, 3), beach(2, 2), beach(3, 1), beach(4, 9), beach(5, 0), beach(6, 6)},
		{beach(5, 1), beach(5, 2), beach(5, 3), beach(5, 4), beach(5, 5), beach(5, 6)},
		{beach(100, 100, 1, 100), beach(100, 1), nil, beach(50, 50, 100, 100)},
	}
}

// many returns jobs with many orders, twelve of most.
func many() [][][]api.Job {
	return [][][]api.Job{
		slices.Repeat([][]api.Job{beach(1, 1, 1, 1)}, 6),
		slices.Repeat([][]api.Job{beach(100, 100, 100, 100)}, 6),
		slices.Repeat([][]api.Job{beach(1, 100, 100, 0)}, 6),
		slices.Repeat([][]api.Job{beach(7, 0, 3, 0)}, 6),
		slices.Repeat([][]api.Job{beach(1, 2, 3, 1, 1, 5)}, 4),
		{beach(1, 9, 2, 8, 3, 7, 4, 6, 5, 5, 6, 4), beach(6, 4, 5, 5, 4, 6, 3, 7, 2, 8, 1, 9)},
		{beach(3, 1, 4, 1), beach(5, 9, 2, 6), beach(5, 3, 5, 8), beach(9, 7, 9, 3), beach(2, 3, 8, 4), beach(6, 2, 6, 4)},
		{beach(10, 1, 1, 20, 3, 3, 1, 2), nil, beach(2, 5, 2, 1, 4, 30), beach(99, 98, 97, 96), beach(13, 14, 15, 16, 17, 18)},
		{beach(1, 0), beach(1, 1), beach(1, 2), beach(1, 3), beach(1, 4), beach(1, 5, 1, 6, 1, 7, 1, 8, 1, 9, 1, 10, 1, 11)},
	}
}

// some returns so many jobs that are drawn, at most most of each, with Hours and Harm up to a number: if it is small, many rates are the same.
func some(seed uint64, lists, most, number int) [][][]api.Job {
	source := rand.New(rand.NewPCG(6, seed))
	var l [][][]api.Job
	for range lists {
		j := make([][]api.Job, source.IntN(api.MaxBeaches)+1)
		for range source.IntN(most + 1) {
			at := source.IntN(len(j))
			j[at] = append(j[at], api.Job{Hours: source.IntN(number) + 1, Harm: source.IntN(number + 1)})
		}
		l = append(l, j)
	}
	return l
}

// short returns jobs whose orders can be told one by one.
func short() [][][]api.Job {
	return slices.Concat(few(), some(1, 120, 6, 3), some(2, 60, 6, 9), some(3, 60, 6, 100))
}

// all returns jobs of all kinds.
func all() [][][]api.Job {
	return slices.Concat(short(), many(), some(4, 120, api.MaxJobs, 3), some(5, 60, api.MaxJobs, 10), some(6, 120, api.MaxJobs, 100))
}

// jobsOf returns how many jobs there are.
func jobsOf(j [][]api.Job) int {
	return len(slices.Concat(j...))
}

// plainIsOrder counts how often each number is named.
func plainIsOrder(j [][]api.Job, order []int) bool {
	if len(order) > 100 {
		return false
	}
	named := map[int]int{}
	for _, beach := range order {
		named[beach]++
	}
	for beach, l := range j {
		if named[beach] != len(l) {
			return false
		}
	}
	return len(order) == jobsOf(j)
}

// plainOrders returns all orders, in ascending order.
func plainOrders(j [][]api.Job) [][]int {
	if jobsOf(j) == 0 {
		return [][]int{nil}
	}
	var orders [][]int
	for beach, l := range j {
		if len(l) == 0 {
			continue
		}
		rest := slices.Clone(j)
		rest[beach] = l[1:]
		for _, order := range plainOrders(rest) {
			orders = append(orders, append([]int{beach}, order...))
		}
	}
	return orders
}

// plainDone adds up, for each job, the Hours of all jobs up to it in the order.
func plainDone(j [][]api.Job, order []int) [][]int {
	done := make([][]int, len(j))
	taken := make([]int, len(j))
	hours := 0
	for _, beach := range order {
		hours += j[beach][taken[beach]].Hours
		taken[beach]++
		done[beach] = append(done[beach], hours)
	}
	return done
}

func plainHarm(j [][]api.Job, order []int) int {
	sum := 0
	for beach, hours := range plainDone(j, order) {
		for i, hour := range hours {
			sum += j[beach][i].Harm * hour
		}
	}
	return sum
}

// ratio returns a fraction in lowest terms.
func ratio(n, d int) api.Ratio {
	for i := d; i > 1; i-- {
		if n%i == 0 && d%i == 0 {
			n, d = n/i, d/i
		}
	}
	return api.Ratio{N: n, D: d}
}

// plainRate is the rate of the piece from the one job to the other one.
func plainRate(beach []api.Job, from, last int) api.Ratio {
	hours, harm := 0, 0
	for i := from; i <= last; i++ {
		hours, harm = hours+beach[i].Hours, harm+beach[i].Harm
	}
	return ratio(harm, hours)
}

func less(a, b api.Ratio) bool {
	return a.N*b.D < b.N*a.D
}

// plainLead looks for the last job behind which no piece has a greater rate, from the end on.
func plainLead(beach []api.Job, from int) (int, api.Ratio) {
	for last := len(beach) - 1; ; last-- {
		rate, greatest := plainRate(beach, from, last), true
		for other := from; other < len(beach); other++ {
			greatest = greatest && !less(rate, plainRate(beach, from, other))
		}
		if greatest {
			return last, rate
		}
	}
}

// plainBest takes away the jobs that are done.
func plainBest(j [][]api.Job) []int {
	rest := slices.Clone(j)
	var order []int
	for jobsOf(rest) > 0 {
		chosen, most := -1, api.Ratio{N: -1, D: 1}
		for beach := len(rest) - 1; beach >= 0; beach-- {
			if len(rest[beach]) == 0 {
				continue
			}
			if _, rate := plainLead(rest[beach], 0); !less(rate, most) {
				chosen, most = beach, rate
			}
		}
		last, _ := plainLead(rest[chosen], 0)
		order = append(order, slices.Repeat([]int{chosen}, last+1)...)
		rest[chosen] = rest[chosen][last+1:]
	}
	return order
}

// plainBound adds up the three sums.
func plainBound(j [][]api.Job) int {
	same, one, two := 0, 0, 0
	for b, l := range j {
		for i, job := range l {
			same += job.Hours * job.Harm
			for _, later := range l[i+1:] {
				one += job.Hours * later.Harm
			}
			for _, other := range slices.Concat(j[b+1:]...) {
				two += min(job.Hours*other.Harm, other.Hours*job.Harm)
			}
		}
	}
	return same + one + two
}

// extremes returns the least and the greatest harm of all orders. The last job of an order is the last one of some beach and is done when all are: what is in front of it is an order of the other jobs.
func extremes(j [][]api.Job) (least, most int) {
	type harms struct{ least, most int }
	known := map[[api.MaxBeaches]int]harms{}
	var of func(taken [api.MaxBeaches]int) harms
	of = func(taken [api.MaxBeaches]int) harms {
		if h, ok := known[taken]; ok {
			return h
		}
		hours := 0
		for beach, l := range j {
			for _, job := range l[:taken[beach]] {
				hours += job.Hours
			}
		}
		h, found := harms{}, false
		for beach, l := range j {
			if taken[beach] == 0 {
				continue
			}
			before := taken
			before[beach]--
			last := l[before[beach]].Harm * hours
			g := of(before)
			if !found {
				h = harms{g.least + last, g.most + last}
			}
			h, found = harms{min(h.least, g.least+last), max(h.most, g.most+last)}, true
		}
		known[taken] = h
		return h
	}
	var taken [api.MaxBeaches]int
	for beach, l := range j {
		taken[beach] = len(l)
	}
	h := of(taken)
	return h.least, h.most
}

// plainNumber divides factorials.
func plainNumber(j [][]api.Job) int {
	n := factorial(jobsOf(j))
	for _, l := range j {
		n /= factorial(len(l))
	}
	return n
}

func factorial(n int) int {
	product := 1
	for i := range n {
		product *= i + 1
	}
	return product
}

// badJobs are not valid.
func badJobs() [][][]api.Job {
	l := [][][]api.Job{
		nil, {}, make([][]api.Job, 7), make([][]api.Job, 100000), slices.Repeat([][]api.Job{beach(1, 1)}, 7),
		{slices.Repeat(beach(1, 1), 13)}, {slices.Repeat(beach(1, 1), 100000)}, {slices.Repeat(beach(1, 1), 12), beach(1, 1)}, {nil, beach(1, 1), slices.Repeat(beach(1, 1), 12)},
		append(slices.Repeat([][]api.Job{beach(1, 1, 1, 1)}, 5), beach(1, 1, 1, 1, 1, 1)),
		{beach(1, 1), nil, beach(2, 2, 0, 3, 1, 1)}, {nil, nil, nil, nil, nil, beach(1, 1, 1, 1, 1, 101)},
	}
	for _, bad := range []api.Job{{}, {Hours: 0, Harm: 1}, {Hours: -1, Harm: 1}, {Hours: 101, Harm: 1}, {Hours: 1, Harm: -1}, {Hours: 1, Harm: 101}, {Hours: 1 << 62, Harm: 1}, {Hours: 1, Harm: 1 << 62}, {Hours: -1 << 63, Harm: 1}, {Hours: 1, Harm: -1 << 63}} {
		l = append(l, [][]api.Job{{bad}}, [][]api.Job{beach(2, 2), {{Hours: 1, Harm: 1}, bad, {Hours: 1, Harm: 1}}})
	}
	return l
}

// badOrders are no orders of jobs.
func badOrders(j [][]api.Job) [][]int {
	first := plainBest(j)
	l := [][]int{append([]int{0}, first...), append(slices.Clone(first), len(j)-1), make([]int, 101), make([]int, 100000), slices.Repeat([]int{1}, 100), slices.Repeat([]int{-1}, 101)}
	if len(first) < 100 {
		l = append(l, append(slices.Clone(first), make([]int, 100-len(first))...))
	}
	if len(first) == 0 {
		return append(l, []int{0}, []int{-1}, []int{1})
	}
	l = append(l, nil, []int{}, first[1:], first[:len(first)-1])
	for at := range first {
		for _, beach := range []int{-1, len(j), len(j) + 1, api.MaxBeaches, (first[at] + 1) % api.MaxBeaches, 1 << 62, -1 << 63} {
			other := slices.Clone(first)
			other[at] = beach
			l = append(l, other)
		}
	}
	return l
}
