package tank

import (
	"slices"

	"skimmer/api"
)

// tanks are valid tanks; their methods rely on that, and on deeds that are some for them.
type tanks []int

// state is levels as an array, so that they can be compared and are keys of a map. Where there are fewer tanks, the rest is 0.
type state [api.MaxTanks]int

func stateOf(levels []int) state {
	var s state
	copy(s[:], levels)
	return s
}

// levels returns the state of n tanks as a list.
func (s state) levels(n int) []int {
	return slices.Clone(s[:n])
}

func (s state) total() int {
	sum := 0
	for _, level := range s {
		sum += level
	}
	return sum
}

// compare orders states number by number.
func compare(a, b state) int {
	return slices.Compare(a[:], b[:])
}

func (t tanks) has(tank int) bool {
	return 0 <= tank && tank < len(t)
}

// areLevels reports whether a list is one of levels for the tanks.
func (t tanks) areLevels(l []int) bool {
	if len(l) != len(t) {
		return false
	}
	for i, level := range l {
		if level < 0 || level > t[i] {
			return false
		}
	}
	return true
}

// areDeeds reports whether a list is one of deeds with the tanks.
func (t tanks) areDeeds(l []api.Deed) bool {
	all := t.deeds()
	return len(l) <= api.MaxPours && !slices.ContainsFunc(l, func(d api.Deed) bool { return !slices.Contains(all, d) })
}

// deeds returns all deeds with the tanks, in ascending order.
func (t tanks) deeds() []api.Deed {
	var fills, empties, pours []api.Deed
	for i := range t {
		fills = append(fills, api.Deed{Do: api.DoFill, To: i})
		empties = append(empties, api.Deed{Do: api.DoEmpty, To: i})
		for to := range t {
			if to != i {
				pours = append(pours, api.Deed{Do: api.DoPour, From: i, To: to})
			}
		}
	}
	return slices.Concat(fills, empties, pours)
}

// does returns the state behind a deed.
func (t tanks) does(s state, d api.Deed) state {
	switch d.Do {
	case api.DoFill:
		s[d.To] = t[d.To]
	case api.DoEmpty:
		s[d.To] = 0
	case api.DoPour:
		poured := min(s[d.From], t[d.To]-s[d.To])
		s[d.From] -= poured
		s[d.To] += poured
	}
	return s
}

// measure returns the greatest common divisor of the tanks.
func (t tanks) measure() int {
	measure := 0
	for _, holds := range t {
		measure = divisor(measure, holds)
	}
	return measure
}

// divisor returns the greatest common divisor of two numbers.
func divisor(a, b int) int {
	for b != 0 {
		a, b = b, a%b
	}
	return a
}

// two returns the deeds of Two, for an amount that the tank 1 holds and the measure divides: all of these come about in it before the tanks are as at first again.
func (t tanks) two(amount int) []api.Deed {
	var l []api.Deed
	for s := (state{}); s[1] != amount; {
		d := t.nextOfTwo(s)
		l = append(l, d)
		s = t.does(s, d)
	}
	return l
}

// nextOfTwo returns the deed of Two in a state that is not wanted.
func (t tanks) nextOfTwo(s state) api.Deed {
	switch {
	case s[1] == t[1]:
		return api.Deed{Do: api.DoEmpty, To: 1}
	case s[0] == 0:
		return api.Deed{Do: api.DoFill, To: 0}
	}
	return api.Deed{Do: api.DoPour, From: 0, To: 1}
}
