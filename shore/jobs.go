package shore

import (
	"slices"

	"skimmer/api"
)

// jobs is a valid list of beaches; its methods rely on that, and on orders that are some of these jobs.
type jobs [][]api.Job

// visit is a job at its turn: of which beach it is, and at which hour it is done.
type visit struct {
	api.Job
	beach, done int
}

// harm is the harm until the job is done.
func (v visit) harm() int {
	return v.Harm * v.done
}

// first returns the first order, beach after beach.
func (j jobs) first() []int {
	var order []int
	for beach, l := range j {
		order = append(order, slices.Repeat([]int{beach}, len(l))...)
	}
	return order
}

// isOrder reports whether a list names the beaches as often as the first order does.
func (j jobs) isOrder(order []int) bool {
	first := j.first()
	// The length comes first: a list that is no order may be of any length, and sorting copies it.
	return len(order) == len(first) && slices.Equal(slices.Sorted(slices.Values(order)), first)
}

// visits returns the jobs in an order.
func (j jobs) visits(order []int) []visit {
	next := make([]int, len(j))
	visits := make([]visit, len(order))
	hour := 0
	for i, beach := range order {
		job := j[beach][next[beach]]
		next[beach]++
		hour += job.Hours
		visits[i] = visit{job, beach, hour}
	}
	return visits
}

// inTurn returns the jobs beach after beach.
func (j jobs) inTurn() []visit {
	return j.visits(j.first())
}

func (j jobs) harm(order []int) int {
	sum := 0
	for _, v := range j.visits(order) {
		sum += v.harm()
	}
	return sum
}

// bound returns the pairs' bound.
func (j jobs) bound() int {
	sum := 0
	all := j.inTurn()
	for i, v := range all {
		sum += v.Hours * v.Harm
		for _, w := range all[i+1:] {
			sum += least(v, w)
		}
	}
	return sum
}

// least returns the least harm that comes about because one of two jobs is done before the other one. If they are of one beach, v is the earlier one.
func least(v, w visit) int {
	if v.beach == w.beach {
		return v.Hours * w.Harm
	}
	return min(v.Hours*w.Harm, w.Hours*v.Harm)
}

// number returns how many orders there are: the factorial of the number of jobs, divided by that of each beach. Job by job, so that no number on the way is greater than the factorial.
func (j jobs) number() int {
	orders, taken := 1, 0
	for _, beach := range j {
		for i := range beach {
			taken++
			orders = orders * taken / (i + 1) // no remainder: these are the orders of the jobs taken so far
		}
	}
	return orders
}

// each returns other jobs, which are made of these one by one, in the same places.
func (j jobs) each(made func(job api.Job) api.Job) jobs {
	other := make(jobs, len(j))
	for beach, l := range j {
		other[beach] = make([]api.Job, len(l))
		for i, job := range l {
			other[beach][i] = made(job)
		}
	}
	return other
}

// turned returns the jobs with every beach the other way round, and Hours and Harm exchanged.
func (j jobs) turned() jobs {
	turned := j.each(func(job api.Job) api.Job {
		return api.Job{Hours: job.Harm, Harm: job.Hours}
	})
	for _, beach := range turned {
		slices.Reverse(beach)
	}
	return turned
}

// exchanged returns a list in which the elements at two places are exchanged.
func exchanged(l []int, i, k int) []int {
	other := slices.Clone(l)
	other[i], other[k] = other[k], other[i]
	return other
}

// following returns the next greater list of the same numbers, or nil. It differs first at the last place from which the numbers ascend: those behind it descend, so nothing greater begins with all of what is up to there.
func following(l []int) []int {
	for i := len(l) - 2; i >= 0; i-- {
		if l[i] < l[i+1] {
			return raised(l, i)
		}
	}
	return nil
}

// raised returns the least of the greater lists that differ first at place i: the numbers behind it descend, and some of them are greater than the one there.
func raised(l []int, i int) []int {
	k := len(l) - 1
	for l[k] <= l[i] {
		k--
	}
	other := exchanged(l, i, k)
	slices.Reverse(other[i+1:])
	return other
}
