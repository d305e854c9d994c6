package window_test

import (
	"math"
	"slices"
	"testing"

	"skimmer/api"
	"skimmer/window"
)

// six is the window of the chapter's example.
var six = win(6, 0, 2, 3, 5)

// P5.2: windows with no hours, with all, with the least period and the greatest one.
func TestValid(t *testing.T) {
	for _, w := range slices.Concat(few(), many(), []api.Window{win(1), win(1, 0), win(60), {Period: 60, Hours: []int{}}, {Period: 5, Hours: nil}, win(60, 0, 59)}) {
		if !window.Valid(w) {
			t.Errorf("%v is valid", w)
		}
	}
	for _, w := range slices.Concat(badWindows(), wide()) {
		if window.Valid(w) {
			t.Errorf("%v is not valid", w)
		}
	}
}

// P5.2: also hours far ahead.
func TestOpen(t *testing.T) {
	for _, w := range slices.Concat(few(), many(), wide()) {
		hours := []int{0, 1, w.Period - 1, w.Period, w.Period + 1, 5*w.Period - 1, 123456789, 1 << 29, farthest - 2, farthest - 1, farthest}
		for hour := range 150 {
			hours = append(hours, hour)
		}
		for _, hour := range hours {
			is, err := window.Open(w, hour)
			check(t, "Open", is, err, opens(w, hour), api.OK)
		}
	}
	for hour, want := range map[int]bool{0: true, 1: false, 2: true, 3: true, 4: false, 5: true, 6: true, 10: false, farthest: false, farthest - 1: true} {
		is, err := window.Open(six, hour)
		check(t, "Open", is, err, want, api.OK)
	}
}

// P5.3: any two windows.
func TestBothAndEither(t *testing.T) {
	for _, v := range few() {
		for _, w := range few() {
			checkBothAndEither(t, v, w)
		}
	}
	l := many()
	for i, v := range l {
		for _, k := range []int{i, len(l) - 1 - i, (7*i + 3) % len(l)} {
			checkBothAndEither(t, v, l[k])
		}
	}
}

func checkBothAndEither(t *testing.T, v, w api.Window) {
	t.Helper()
	period := common(v.Period, w.Period)
	got, err := window.Both(v, w)
	checkWindow(t, "Both", got, err, made(period, func(hour int) bool { return opens(v, hour) && opens(w, hour) }), api.OK)
	got, err = window.Either(v, w)
	checkWindow(t, "Either", got, err, made(period, func(hour int) bool { return opens(v, hour) || opens(w, hour) }), api.OK)
}

// P5.3: periods with and without a common divisor, windows that are never open together.
func TestBothAndEitherKinds(t *testing.T) {
	for _, x := range []struct{ v, w, both, either api.Window }{
		{win(2, 0), win(3, 0, 1), win(6, 0, 4), win(6, 0, 1, 2, 3, 4)},
		{win(4, 1), win(6, 2), win(12), win(12, 1, 2, 5, 8, 9)},
		{win(4, 1), win(6, 1), win(12, 1), win(12, 1, 5, 7, 9)},
		{six, six, six, six},
		{six, win(3, 0, 2), six, six},
		{win(1), six, win(6), six},
		{six, win(1, 0), six, win(6, 0, 1, 2, 3, 4, 5)},
		{win(1), win(1, 0), win(1), win(1, 0)},
		{win(1), win(1), win(1), win(1)},
		{win(2), win(3), win(6), win(6)},
		{win(60, 59), win(59, 58), win(3540, 3539), made(3540, func(hour int) bool { return hour%60 == 59 || hour%59 == 58 })},
	} {
		got, err := window.Both(x.v, x.w)
		checkWindow(t, "Both", got, err, x.both, api.OK)
		got, err = window.Either(x.v, x.w)
		checkWindow(t, "Either", got, err, x.either, api.OK)
	}
}

// P5.3.
func TestNot(t *testing.T) {
	for _, w := range slices.Concat(few(), many(), wide()) {
		got, err := window.Not(w)
		checkWindow(t, "Not", got, err, made(w.Period, func(hour int) bool { return !opens(w, hour) }), api.OK)
	}
	for _, x := range []struct{ w, not api.Window }{{six, win(6, 1, 4)}, {win(1), win(1, 0)}, {win(1, 0), win(1)}, {win(3), win(3, 0, 1, 2)}, {win(3, 0, 1, 2), win(3)}} {
		got, err := window.Not(x.w)
		checkWindow(t, "Not", got, err, x.not, api.OK)
	}
}

// shifts are such that windows may be shifted by: negative ones, some greater than a period, the greatest.
var shifts = []int{0, 1, 2, 5, 6, 7, 59, 60, 61, 3600, 10000, 999999, 1000000, -1, -2, -5, -6, -7, -60, -61, -3599, -3601, -999999, -1000000}

// badShifts are not.
var badShifts = []int{1000001, -1000001, 1 << 32, -1 << 32, math.MaxInt, math.MinInt}

// P5.3.
func TestShifted(t *testing.T) {
	for _, w := range slices.Concat(few(), many(), wide()[:12]) {
		for _, by := range shifts {
			got, err := window.Shifted(w, by)
			// So many whole periods that no hour is below 0.
			checkWindow(t, "Shifted", got, err, made(w.Period, func(hour int) bool { return opens(w, hour+by+1000000*w.Period) }), api.OK)
		}
	}
	for _, x := range []struct {
		w    api.Window
		by   int
		want api.Window
	}{
		{win(6, 0, 2), 0, win(6, 0, 2)}, {win(6, 0, 2), 1, win(6, 1, 5)}, {win(6, 0, 2), -1, win(6, 1, 3)}, {win(6, 0, 2), 6, win(6, 0, 2)}, {win(6, 0, 2), -6, win(6, 0, 2)},
		{win(6, 0, 2), 13, win(6, 1, 5)}, {win(6, 0, 2), -1000000, win(6, 0, 4)}, {win(6, 0, 2), 1000000, win(6, 2, 4)}, {win(1, 0), -7, win(1, 0)}, {win(5), 3, win(5)},
		{six, 3, six}, {win(3600, 0, 3599), 1, win(3600, 3598, 3599)}, {win(3600, 0, 3599), -1, win(3600, 0, 1)},
	} {
		got, err := window.Shifted(x.w, x.by)
		checkWindow(t, "Shifted", got, err, x.want, api.OK)
	}
	for _, by := range badShifts {
		got, err := window.Shifted(six, by)
		checkWindow(t, "Shifted", got, err, api.Window{}, api.ErrArg)
	}
}

// P5.3: a lesser period, and none.
func TestPlain(t *testing.T) {
	for _, w := range slices.Concat(few(), many()) {
		got, err := window.Plain(w)
		checkWindow(t, "Plain", got, err, shortest(w), api.OK)
	}
	odd := made(3600, func(hour int) bool { return hour%60 == 7 && hour != 3547 })
	for _, x := range []struct{ w, plain api.Window }{
		{six, win(3, 0, 2)}, {win(3, 0, 2), win(3, 0, 2)}, {win(4, 0, 1, 2), win(4, 0, 1, 2)},
		{win(1), win(1)}, {win(1, 0), win(1, 0)}, {win(60), win(1)}, {win(3600), win(1)}, {win(4, 0, 1, 2, 3), win(1, 0)}, {made(3600, func(int) bool { return true }), win(1, 0)},
		{win(60, 0, 30), win(30, 0)}, {win(60, 0, 29), win(60, 0, 29)}, {win(4, 0, 2), win(2, 0)}, {win(6, 0, 1, 3, 4), win(3, 0, 1)}, {win(6, 1, 3, 5), win(2, 1)}, {win(5, 0, 2, 4), win(5, 0, 2, 4)},
		// Hours that repeat, but not to the end of the period.
		{win(5, 0, 3), win(5, 0, 3)}, {win(7, 0, 3, 6), win(7, 0, 3, 6)}, {win(8, 0, 2, 4, 6), win(2, 0)}, {win(8, 0, 2, 4, 7), win(8, 0, 2, 4, 7)},
		{win(3600, 0, 1800), win(1800, 0)}, {win(3600, 0, 1801), win(3600, 0, 1801)}, {win(3599, 7), win(3599, 7)}, {win(122, 3, 64), win(61, 3)},
		{made(3600, func(hour int) bool { return hour%60 == 7 }), win(60, 7)}, {odd, odd},
	} {
		got, err := window.Plain(x.w)
		checkWindow(t, "Plain", got, err, x.plain, api.OK)
	}
}

// P5.3: the same hours with other periods, and nearly the same ones.
func TestSame(t *testing.T) {
	for _, v := range few() {
		for _, w := range few() {
			is, err := window.Same(v, w)
			check(t, "Same", is, err, alike(v, w), api.OK)
		}
	}
	l := slices.Concat(many(), few())
	for i, v := range l {
		for _, w := range []api.Window{v, l[(i+4)%len(l)], l[(5*i+1)%len(l)]} {
			is, err := window.Same(v, w)
			check(t, "Same", is, err, alike(v, w), api.OK)
		}
	}
	for _, x := range []struct {
		v, w api.Window
		is   bool
	}{
		{six, win(3, 0, 2), true}, {six, win(3, 0, 1), false}, {six, win(6, 0, 2, 3), false}, {win(2, 0), win(3, 0), false}, {win(2, 0), win(2, 1), false}, {win(5), win(7), true}, {win(5), win(7, 6), false},
		{win(1, 0), win(3, 0, 1, 2), true}, {win(1, 0), win(1), false}, {win(60, 0, 30), win(30, 0), true}, {win(60, 0, 30), win(20, 0, 10), false}, {win(4, 0, 2), win(6, 0, 2, 4), true}, {win(4, 0, 2), win(6, 0, 2), false},
		{win(3600), win(3599), true}, {win(3600, 0, 1800), win(1800, 0), true}, {win(3600, 0, 1800), win(1800, 1), false}, {win(3600, 0), win(3599, 0), false}, {win(3600, 3599), win(3600, 3599), true}, {win(3600, 3599), win(3600), false},
	} {
		is, err := window.Same(x.v, x.w)
		check(t, "Same", is, err, x.is, api.OK)
		is, err = window.Same(x.w, x.v)
		check(t, "Same", is, err, x.is, api.OK)
	}
}

// P5.3.
func TestPart(t *testing.T) {
	for _, w := range slices.Concat(few(), many(), wide()) {
		n := 0
		for hour := range w.Period {
			if opens(w, hour) {
				n++
			}
		}
		d := greatest(n, w.Period)
		part, err := window.Part(w)
		check(t, "Part", part, err, api.Ratio{N: n / d, D: w.Period / d}, api.OK)
	}
	for _, x := range []struct {
		w    api.Window
		n, d int
	}{{six, 2, 3}, {win(7), 0, 1}, {win(3600), 0, 1}, {win(1), 0, 1}, {win(1, 0), 1, 1}, {win(2, 0, 1), 1, 1}, {win(60, 7), 1, 60}, {win(60, 7, 8), 1, 30}, {win(3599, 5), 1, 3599}, {win(7, 0, 1, 2), 3, 7}} {
		part, err := window.Part(x.w)
		check(t, "Part", part, err, api.Ratio{N: x.n, D: x.d}, api.OK)
	}
}
