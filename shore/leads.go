package shore

import "skimmer/api"

// piece is jobs that follow each other on a beach, taken as one job with all their Hours and Harm, and the index of the last one.
type piece struct {
	api.Job
	last int
}

// with returns the piece that goes on by a job.
func (p piece) with(job api.Job) piece {
	return piece{api.Job{Hours: p.Hours + job.Hours, Harm: p.Harm + job.Harm}, p.last + 1}
}

// below reports whether the rate of a piece is less than that of another one.
func (p piece) below(q piece) bool {
	return p.Harm*q.Hours < q.Harm*p.Hours
}

// rate returns the rate of a piece in lowest terms.
func (p piece) rate() api.Ratio {
	d := divisor(p.Harm, p.Hours)
	return api.Ratio{N: p.Harm / d, D: p.Hours / d}
}

// divisor returns the greatest common divisor of two numbers.
func divisor(a, b int) int {
	for b != 0 {
		a, b = b, a%b
	}
	return a
}

// lead returns the lead of a beach from one of its jobs on.
func lead(beach []api.Job, from int) piece {
	p := piece{beach[from], from}
	most := p
	for _, job := range beach[from+1:] {
		p = p.with(job)
		if !p.below(most) {
			most = p
		}
	}
	return most
}

// best does the lead with the greatest rate again and again.
func (j jobs) best() []int {
	var order []int
	next := make([]int, len(j))
	for beach, last := j.greatest(next); beach >= 0; beach, last = j.greatest(next) {
		for ; next[beach] <= last; next[beach]++ {
			order = append(order, beach)
		}
	}
	return order
}

// greatest returns the first beach of those whose leads from their next jobs on have the greatest rate, and the last job of its lead. The beach is -1 if no job is left.
func (j jobs) greatest(next []int) (beach, last int) {
	beach = -1
	var most piece
	for i, l := range j {
		if next[i] == len(l) {
			continue
		}
		if p := lead(l, next[i]); beach < 0 || most.below(p) {
			beach, most = i, p
		}
	}
	return beach, most.last
}

// worst returns an order with the greatest harm: the best one once every Harm is taken from 0. It does not matter that none of them is above 0 then: 100 times its Hours added to the Harm of each job adds the same to the harm of all orders, and to all rates.
func (j jobs) worst() []int {
	return j.each(func(job api.Job) api.Job {
		return api.Job{Hours: job.Hours, Harm: -job.Harm}
	}).best()
}
