package window_test

import (
	"slices"
	"testing"

	"skimmer/api"
	"skimmer/window"
)

// nextOpen returns the first hour from one on at which all windows are open; it is 0 and ErrNone if none is in so many hours.
func nextOpen(l []api.Window, from, hours int) (int, api.Errno) {
	for hour := from; hour < from+hours; hour++ {
		if allOpen(l, hour) {
			return hour, api.OK
		}
	}
	return 0, api.ErrNone
}

// P5.4: also from hours far ahead, where Next may be above the greatest argument.
func TestNext(t *testing.T) {
	for _, w := range slices.Concat(few(), many(), wide()) {
		for _, from := range []int{0, 1, 2, 3, w.Period - 1, w.Period, w.Period + 1, 100, 12345, farthest - 1, farthest} {
			want, wantErr := nextOpen([]api.Window{w}, from, 2*w.Period)
			hour, err := window.Next(w, from)
			check(t, "Next", hour, err, want, wantErr)
		}
	}
	for _, x := range []struct {
		w          api.Window
		from, want int
		err        api.Errno
	}{
		{six, 0, 0, api.OK}, {six, 1, 2, api.OK}, {six, 3, 3, api.OK}, {six, 4, 5, api.OK}, {six, 7, 8, api.OK}, {six, farthest, farthest + 1, api.OK},
		{win(1, 0), 17, 17, api.OK}, {win(1), 0, 0, api.ErrNone}, {win(6), 5, 0, api.ErrNone}, {win(3600), farthest, 0, api.ErrNone},
		{win(60, 0), 1, 60, api.OK}, {win(60, 59), 60, 119, api.OK}, {win(3600, 2799), farthest, farthest + 3599, api.OK}, {win(3600, 2800), farthest, farthest, api.OK},
	} {
		hour, err := window.Next(x.w, x.from)
		check(t, "Next", hour, err, x.want, x.err)
	}
}

// longest tells the longest span of a window: one begins where the hour in front is not open.
func longest(w api.Window) ([2]int, api.Errno) {
	best := [2]int{}
	for from := range w.Period {
		if opens(w, from+w.Period-1) {
			continue
		}
		hours := 0
		for opens(w, from+hours) {
			hours++
		}
		if hours > best[1] {
			best = [2]int{from, hours}
		}
	}
	if best[1] == 0 {
		return best, api.ErrNone
	}
	return best, api.OK
}

// P5.4.
func TestLongest(t *testing.T) {
	for _, w := range slices.Concat(few(), many(), wide()) {
		want, wantErr := longest(w)
		from, hours, err := window.Longest(w)
		check(t, "Longest", [2]int{from, hours}, err, want, wantErr)
	}
}

// P5.4: spans that go over the end of the period, several longest ones, windows that are never open or always.
func TestLongestKinds(t *testing.T) {
	for _, x := range []struct {
		w           api.Window
		from, hours int
		err         api.Errno
	}{
		{six, 2, 2, api.OK}, {win(6, 0, 1, 3, 4, 5), 3, 5, api.OK}, {win(5, 0), 0, 1, api.OK}, {win(5, 4), 4, 1, api.OK}, {win(5, 0, 4), 4, 2, api.OK}, {win(5, 1, 2, 3, 4), 1, 4, api.OK}, {win(5, 0, 1, 2, 4), 4, 4, api.OK},
		{win(8, 1, 2, 5, 6), 1, 2, api.OK}, {win(8, 0, 3, 4, 7), 3, 2, api.OK}, {win(9, 0, 3, 4, 7, 8), 7, 3, api.OK}, {win(8, 0, 1, 4, 5), 0, 2, api.OK}, {win(8, 0, 2, 4, 6), 0, 1, api.OK}, {win(7, 0, 1, 3, 4, 5), 3, 3, api.OK},
		{win(5), 0, 0, api.ErrNone}, {win(1), 0, 0, api.ErrNone}, {win(1, 0), 0, 0, api.ErrNone}, {win(3, 0, 1, 2), 0, 0, api.ErrNone}, {win(3600), 0, 0, api.ErrNone}, {made(3600, func(int) bool { return true }), 0, 0, api.ErrNone},
		{win(3600, 0, 3599), 3599, 2, api.OK}, {win(2, 1), 1, 1, api.OK}, {made(3600, func(hour int) bool { return hour != 1700 }), 1701, 3599, api.OK}, {made(3600, func(hour int) bool { return hour != 3599 }), 0, 3599, api.OK},
	} {
		from, hours, err := window.Longest(x.w)
		check(t, "Longest", [2]int{from, hours}, err, [2]int{x.from, x.hours}, x.err)
	}
}

// P5.5: one window to four.
func TestFirst(t *testing.T) {
	for _, l := range someLists() {
		for _, from := range []int{0, 1, 17, 1000, farthest - 7, farthest} {
			want, wantErr := nextOpen(l, from, common(periods(l)...))
			hour, err := window.First(l, from)
			check(t, "First", hour, err, want, wantErr)
		}
	}
}

// P5.5.
func TestNumber(t *testing.T) {
	for _, l := range someLists() {
		period, n := common(periods(l)...), 0
		for hour := range period {
			if allOpen(l, hour) {
				n++
			}
		}
		got, gotPeriod, err := window.Number(l)
		check(t, "Number", [2]int{got, gotPeriod}, err, [2]int{n, period}, api.OK)
	}
}

// P5.5: one window and four, windows that are never open together, and the greatest period.
func TestTogetherKinds(t *testing.T) {
	l := []api.Window{win(2, 0), win(3, 0, 1), win(5, 4)}
	always, last := win(1, 0), []api.Window{win(60, 59), win(59, 58), win(28, 27)}
	for _, x := range []struct {
		l              []api.Window
		from, want     int
		err            api.Errno
		number, period int
	}{
		{l, 0, 4, api.OK, 2, 30}, {l, 4, 4, api.OK, 2, 30}, {l, 5, 24, api.OK, 2, 30}, {l, 25, 34, api.OK, 2, 30}, {l, farthest, farthest + 14, api.OK, 2, 30},
		{[]api.Window{six}, 4, 5, api.OK, 4, 6}, {[]api.Window{six, six, six, six}, 4, 5, api.OK, 4, 6}, {[]api.Window{always}, 9, 9, api.OK, 1, 1}, {[]api.Window{always, always, always, six}, 1, 2, api.OK, 4, 6},
		{[]api.Window{win(4, 1), win(6, 2)}, 0, 0, api.ErrNone, 0, 12}, {[]api.Window{six, win(5)}, 3, 0, api.ErrNone, 0, 30}, {[]api.Window{win(1)}, 3, 0, api.ErrNone, 0, 1},
		{[]api.Window{win(2, 0), win(3, 0), win(6, 3)}, 0, 0, api.ErrNone, 0, 6},
		{last, 0, 24779, api.OK, 1, 24780}, {last, 24780, 49559, api.OK, 1, 24780},
	} {
		hour, err := window.First(x.l, x.from)
		check(t, "First", hour, err, x.want, x.err)
		n, period, err := window.Number(x.l)
		check(t, "Number", [2]int{n, period}, err, [2]int{x.number, x.period}, api.OK)
	}
}

// P5.5: periods about the limit; none that windows have are nearer to it.
func TestTogetherLimit(t *testing.T) {
	for _, x := range []struct {
		periods []int
		common  int
	}{
		{[]int{3, 25, 31, 43}, 99975}, {[]int{40, 49, 51}, 99960}, {[]int{46, 47, 46, 47}, 2162}, {[]int{60, 59}, 3540},
		{[]int{37, 51, 53}, 100011}, {[]int{53, 1, 51, 37}, 100011}, {[]int{59, 58, 57}, 195054}, {[]int{60, 59, 57, 53}, 3565380}, {[]int{59, 57, 58, 55}, 10727970},
	} {
		var l, never []api.Window
		for _, period := range x.periods {
			l = append(l, win(period, period-1))
			never = append(never, win(period))
		}
		if x.common > 100000 {
			checkTogether(t, l, 0, 0, 0, api.ErrLimit, api.ErrLimit)
			checkTogether(t, never, 0, 0, 0, api.ErrLimit, api.ErrLimit)
		} else {
			checkTogether(t, l, x.common-1, 1, x.common, api.OK, api.OK)
			checkTogether(t, never, 0, 0, x.common, api.ErrNone, api.OK)
		}
	}
}

// checkTogether compares First from the hour 0, and Number.
func checkTogether(t *testing.T, l []api.Window, first, number, period int, firstErr, numberErr api.Errno) {
	t.Helper()
	hour, err := window.First(l, 0)
	check(t, "First", hour, err, first, firstErr)
	n, p, err := window.Number(l)
	check(t, "Number", [2]int{n, p}, err, [2]int{number, period}, numberErr)
}
