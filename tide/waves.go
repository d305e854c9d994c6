package tide

import "slices"

// waves is a valid tide; its methods rely on that.
type waves [][]int

// peak is the first hour at which something is greatest, and how great it is there.
type peak struct {
	hour, value int
}

// never is the wait for what does not come.
const never = -1

// made returns a wave of some hours, made hour by hour.
func made(hours int, at func(hour int) int) []int {
	wave := make([]int, hours)
	for hour := range wave {
		wave[hour] = at(hour)
	}
	return wave
}

// modulo is from 0 to n - 1, also for an hour below 0, where % is not.
func modulo(hour, n int) int {
	return (hour%n + n) % n
}

func gcd(a, b int) int {
	for b != 0 {
		a, b = b, a%b
	}
	return a
}

func total(wave []int) int {
	sum := 0
	for _, speed := range wave {
		sum += speed
	}
	return sum
}

func (w waves) speed(hour int) int {
	sum := 0
	for _, wave := range w {
		sum += wave[modulo(hour, len(wave))]
	}
	return sum
}

// drift adds up wave by wave: each goes through whole turns, whose sum is known, so no hour need be looked at more than once.
func (w waves) drift(from, n int) int {
	sum := 0
	for _, wave := range w {
		sum += n / len(wave) * total(wave)
		for i := range n % len(wave) {
			sum += wave[modulo(from+i, len(wave))]
		}
	}
	return sum
}

func (w waves) round() int {
	least := 1
	for _, wave := range w {
		least *= len(wave) / gcd(least, len(wave))
	}
	return least
}

func (w waves) net() int {
	return w.drift(0, w.round())
}

// beat tries the divisors of the round alone: the beat is one of them, as the greatest common divisor of two numbers of hours after which the speeds repeat is another such number.
func (w waves) beat() int {
	speeds := made(w.round(), w.speed)
	for b := 1; b < len(speeds); b++ {
		if len(speeds)%b == 0 && slices.Equal(speeds[b:], speeds[:len(speeds)-b]) {
			return b
		}
	}
	return len(speeds)
}

func (w waves) once() []int {
	return made(w.beat(), w.speed)
}

// wait is the number of hours from an hour to the first slack, or never.
func (w waves) wait(from int) int {
	for hours := range w.round() {
		if w.speed(from+hours) == 0 {
			return hours
		}
	}
	return never
}

// greatest looks at a round of hours, as all that can be said at an hour repeats after it.
func (w waves) greatest(at func(hour int) int) peak {
	best := peak{0, at(0)}
	for hour := range w.round() {
		if value := at(hour); value > best.value {
			best = peak{hour, value}
		}
	}
	return best
}

func (w waves) highest() peak {
	return w.greatest(w.speed)
}

func (w waves) farthest(n int) peak {
	return w.greatest(func(hour int) int { return w.drift(hour, n) })
}

// each returns the tide with a new wave for each one.
func (w waves) each(change func(wave []int) []int) [][]int {
	tide := make([][]int, len(w))
	for i, wave := range w {
		tide[i] = change(wave)
	}
	return tide
}

func (w waves) shifted(by int) [][]int {
	return w.each(func(wave []int) []int {
		return made(len(wave), func(hour int) int { return wave[modulo(hour+by, len(wave))] })
	})
}

func (w waves) back() [][]int {
	return w.each(func(wave []int) []int {
		return made(len(wave), func(hour int) int { return -wave[modulo(-hour, len(wave))] })
	})
}

func (w waves) copied() [][]int {
	return w.each(func(wave []int) []int {
		return made(len(wave), func(hour int) int { return wave[hour] })
	})
}
