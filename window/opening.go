package window

import "skimmer/api"

// opening is when something is open: at the same hours of each period. It may be asked for any hour, also for one below 0.
type opening struct {
	period int
	at     func(hour int) bool
}

// modulo is from 0 to n - 1, also for an hour below 0, where % is not.
func modulo(hour, n int) int {
	return (hour%n + n) % n
}

// divisor returns the greatest common divisor of two numbers.
func divisor(a, b int) int {
	for b != 0 {
		a, b = b, a%b
	}
	return a
}

// multiple returns the least common multiple of two numbers.
func multiple(a, b int) int {
	return a / divisor(a, b) * b
}

// openingOf returns the opening of a valid window, as a table: it is asked hour by hour.
func openingOf(w api.Window) opening {
	open := make([]bool, w.Period)
	for _, hour := range w.Hours {
		open[hour] = true
	}
	return opening{len(open), func(hour int) bool { return open[modulo(hour, len(open))] }}
}

func always() opening {
	return opening{1, func(int) bool { return true }}
}

func (o opening) both(p opening) opening {
	return opening{multiple(o.period, p.period), func(hour int) bool { return o.at(hour) && p.at(hour) }}
}

func (o opening) either(p opening) opening {
	return opening{multiple(o.period, p.period), func(hour int) bool { return o.at(hour) || p.at(hour) }}
}

func (o opening) not() opening {
	return opening{o.period, func(hour int) bool { return !o.at(hour) }}
}

func (o opening) shifted(by int) opening {
	return opening{o.period, func(hour int) bool { return o.at(hour + by) }}
}

// plain returns the opening with its least period. Only the divisors of the period are tried: the least one is one of them, as the greatest common divisor of two periods is a period too.
func (o opening) plain() opening {
	for period := 1; period < o.period; period++ {
		if o.period%period == 0 && o.repeats(period) {
			return opening{period, o.at}
		}
	}
	return o
}

// repeats reports whether the opening is the same after so many hours, at all of them.
func (o opening) repeats(after int) bool {
	for hour := range o.period {
		if o.at(hour) != o.at(hour+after) {
			return false
		}
	}
	return true
}

// window returns the window of the opening.
func (o opening) window() api.Window {
	var hours []int
	for hour := range o.period {
		if o.at(hour) {
			hours = append(hours, hour)
		}
	}
	return api.Window{Period: o.period, Hours: hours}
}

// count returns how many hours of a period are open.
func (o opening) count() int {
	n := 0
	for hour := range o.period {
		if o.at(hour) {
			n++
		}
	}
	return n
}

// next returns the first open hour from one on. One that is not found within a period does not come.
func (o opening) next(from int) (int, api.Errno) {
	for wait := range o.period {
		if o.at(from + wait) {
			return from + wait, api.OK
		}
	}
	return 0, api.ErrNone
}

// longest returns the first hour of those at which a longest span begins, and how many hours it has: 0 if no span begins anywhere.
func (o opening) longest() (from, hours int) {
	for hour := range o.period {
		if n := o.span(hour); n > hours {
			from, hours = hour, n
		}
	}
	return from, hours
}

// span returns how many hours the span has that begins at an hour, 0 if none begins there. It ends within a period, at the latest where the hour in front of it comes again.
func (o opening) span(from int) int {
	if o.at(from - 1) {
		return 0
	}
	n := 0
	for o.at(from + n) {
		n++
	}
	return n
}
