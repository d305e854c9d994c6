package shore_test

import (
	"math/rand/v2"
	"slices"
	"testing"

	"skimmer/api"
	"skimmer/shore"
)

// P6.7, P6.10: Best is an order, with the harm Least; no order has a lesser harm, nor a greater one than Worst.
func TestNoOrderIsBetter(t *testing.T) {
	for _, j := range all() {
		best := must[[]int](t, "Best")(shore.Best(j))
		is, err := shore.IsOrder(j, best)
		check(t, "IsOrder of Best", is, err, true, api.OK)
		least, worst := must[int](t, "Least")(shore.Least(j)), must[int](t, "Worst")(shore.Worst(j))
		harm, err := shore.Harm(j, best)
		check(t, "Harm of Best", harm, err, least, api.OK)
		if worst < least {
			t.Errorf("%v: Worst %d, Least %d", j, worst, least)
		}
	}
	for _, j := range short() {
		least, worst := must[int](t, "Least")(shore.Least(j)), must[int](t, "Worst")(shore.Worst(j))
		for _, order := range plainOrders(j) {
			if harm := must[int](t, "Harm")(shore.Harm(j, order)); harm < least || harm > worst {
				t.Errorf("%v: Harm of %v is %d, Least %d, Worst %d", j, order, harm, least, worst)
			}
		}
	}
}

// P6.7: Least is at least Bound, and is Bound if every beach has at most one job.
func TestLeastAndBound(t *testing.T) {
	equal := 0
	for _, j := range all() {
		least, bound := must[int](t, "Least")(shore.Least(j)), must[int](t, "Bound")(shore.Bound(j))
		if least < bound {
			t.Errorf("%v: Least %d, Bound %d", j, least, bound)
		}
		if !slices.ContainsFunc(j, func(l []api.Job) bool { return len(l) > 1 }) {
			equal++
			check(t, "Bound of single jobs", bound, api.OK, least, api.OK)
		}
	}
	if equal < 20 {
		t.Errorf("only %d with at most one job on every beach", equal)
	}
}

// P6.7: one more job, at whatever place of whatever beach, or on a new one.
func TestMoreJobs(t *testing.T) {
	source := rand.New(rand.NewPCG(6, 7))
	for _, j := range all() {
		if jobsOf(j) == api.MaxJobs {
			continue
		}
		least := must[int](t, "Least")(shore.Least(j))
		beaches := j
		if len(j) < api.MaxBeaches {
			beaches = append(slices.Clone(j), nil)
		}
		for b, l := range beaches {
			for i := range len(l) + 1 {
				more := slices.Clone(beaches)
				more[b] = slices.Insert(slices.Clone(l), i, api.Job{Hours: source.IntN(100) + 1, Harm: source.IntN(101)})
				if n := must[int](t, "Least")(shore.Least(more)); n < least {
					t.Errorf("%v: Least %d, of %v %d", j, least, more, n)
				}
			}
		}
	}
}

// P6.8: Swap back undoes it, and what is greater is told by the two jobs alone.
func TestExchanges(t *testing.T) {
	for _, j := range short() {
		for _, order := range plainOrders(j) {
			next := make([]int, len(j))
			for at := range max(len(order)-1, 0) {
				b, c := order[at], order[at+1]
				if b != c {
					x, y := j[b][next[b]], j[c][next[c]]
					there, by, err := shore.Swap(j, order, at)
					check(t, "how much greater Swap is", by, err, x.Harm*y.Hours-y.Harm*x.Hours, api.OK)
					checkSwap(t, j, there, at, order, -by, api.OK)
				}
				next[b]++
			}
		}
	}
}

// P6.9: without order the least harm is at most as great.
func TestFreeIsLess(t *testing.T) {
	free, less := 0, 0
	for _, j := range all() {
		f, err := shore.Free(j)
		if err != api.OK {
			continue
		}
		with, without := must[int](t, "Least")(shore.Least(j)), must[int](t, "Least of Free")(shore.Least(f))
		if without > with {
			t.Errorf("%v: Least %d, of Free %d", j, with, without)
		}
		free++
		if without < with {
			less++
		}
	}
	if free < 100 || less < 20 {
		t.Errorf("only %d can be freed, %d with less harm", free, less)
	}
}

// P6.10: what Least of Turned is, and jobs that are turned twice.
func TestTurnedTwice(t *testing.T) {
	n := 0
	for _, j := range all() {
		turned, err := shore.Turned(j)
		if err != api.OK {
			continue
		}
		n++
		least, err := shore.Least(turned)
		check(t, "Least of Turned", least, err, must[int](t, "Least")(shore.Least(j)), api.OK)
		twice, err := shore.Turned(turned)
		checkLists(t, "Turned of Turned", twice, err, j, api.OK)
	}
	if n < 100 {
		t.Errorf("only %d can be turned", n)
	}
}

// P6.11: from the first order on, which ascends, Next leads through Number orders, each one greater than the one before.
func TestThroughAllOrders(t *testing.T) {
	for _, j := range slices.Concat(short(), some(8, 40, 8, 100)) {
		var order []int
		for b, l := range j {
			order = append(order, slices.Repeat([]int{b}, len(l))...)
		}
		n := 1
		for {
			is, err := shore.IsOrder(j, order)
			check(t, "IsOrder", is, err, true, api.OK)
			next, err := shore.Next(j, order)
			if err != api.OK {
				check(t, "Next of the last one", len(next), err, 0, api.ErrNone)
				break
			}
			if slices.Compare(order, next) >= 0 {
				t.Fatalf("Next of %v is %v", order, next)
			}
			order, n = next, n+1
		}
		number, err := shore.Number(j)
		check(t, "Number", number, err, n, api.OK)
	}
}
