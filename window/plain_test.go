package window_test

import (
	"math"
	"math/rand/v2"
	"reflect"
	"slices"
	"testing"

	"skimmer/api"
)

// This file has what the other tests share: windows and rounds, and the chapter's terms told word by word, to compare with.

// farthest is the greatest hour that is an argument with a window.
const farthest = 1000000000

// check compares a result and its error with those wanted.
func check[R any](t *testing.T, name string, got R, err api.Errno, want R, wantErr api.Errno) {
	t.Helper()
	if err != wantErr || !reflect.DeepEqual(got, want) {
		t.Errorf("%s: %v, error %d, want %v, error %d", name, got, err, want, wantErr)
	}
}

// checkWindow is check for windows, whose hours may be nil or empty where there are none.
func checkWindow(t *testing.T, name string, got api.Window, err api.Errno, want api.Window, wantErr api.Errno) {
	t.Helper()
	if err != wantErr || got.Period != want.Period || !slices.Equal(got.Hours, want.Hours) {
		t.Errorf("%s: %v, error %d, want %v, error %d", name, got, err, want, wantErr)
	}
}

// must returns a function that passes on a result that came without an error.
func must[R any](t *testing.T, name string) func(R, api.Errno) R {
	return func(got R, err api.Errno) R {
		t.Helper()
		if err != api.OK {
			t.Fatalf("%s: error %d", name, err)
		}
		return got
	}
}

func win(period int, hours ...int) api.Window { return api.Window{Period: period, Hours: hours} }

func round(at, every int) api.Round { return api.Round{At: at, Every: every} }

// made returns the window with a period that is open at the hours of which something is true.
func made(period int, is func(hour int) bool) api.Window {
	w := win(period)
	for hour := range period {
		if is(hour) {
			w.Hours = append(w.Hours, hour)
		}
	}
	return w
}

// few returns all windows with short periods.
func few() []api.Window {
	var l []api.Window
	for period := 1; period <= 6; period++ {
		for set := range 1 << period {
			l = append(l, made(period, func(hour int) bool { return set>>hour&1 == 1 }))
		}
	}
	return l
}

// many returns windows with all periods: seldom open, often, never and always.
func many() []api.Window {
	source := rand.New(rand.NewPCG(5, 1))
	l := []api.Window{win(60), win(59), win(60, 0), win(60, 59), win(59, 58), win(60, 0, 30), win(60, 0, 59), win(59, 0, 1, 58)}
	for period := 7; period <= api.MaxPeriod; period++ {
		for _, share := range []int{1, 3, 6} {
			l = append(l, made(period, func(int) bool { return source.IntN(7) < share }))
		}
		beat := source.IntN(6) + 1
		l = append(l, made(period, func(hour int) bool { return period%beat == 0 && hour%beat != 1 }))
	}
	return append(l, made(60, func(int) bool { return true }), made(7, func(int) bool { return true }))
}

// wide returns windows whose periods are above MaxPeriod.
func wide() []api.Window {
	source := rand.New(rand.NewPCG(5, 2))
	l := []api.Window{win(61), win(61, 0), win(61, 60), win(3600), win(3600, 0), win(3600, 3599), win(3599, 0, 3598), win(3600, 0, 1800), win(3600, 0, 1801)}
	for _, period := range []int{61, 97, 120, 2520, 3540, 3599, 3600} {
		l = append(l, made(period, func(int) bool { return true }), made(period, func(hour int) bool { return hour != period/2 }))
		l = append(l, made(period, func(int) bool { return source.IntN(5) == 0 }))
		for _, parts := range []int{2, 3, 5, 7, 60} {
			if period%parts == 0 {
				once := made(period/parts, func(int) bool { return source.IntN(3) == 0 })
				l = append(l, made(period, func(hour int) bool { return slices.Contains(once.Hours, hour%once.Period) }))
			}
		}
	}
	return l
}

// badWindows are not valid, not even wide ones.
func badWindows() []api.Window {
	return []api.Window{
		{}, win(0), win(0, 0), win(-1), win(-1, 0), win(-60, 1), win(math.MinInt), win(3601), win(3601, 0), win(7200, 0), win(1<<32+5, 0), win(math.MaxInt), win(math.MaxInt, 0),
		win(1, 1), win(3, 3), win(3, 0, 3), win(3, -1), win(3, -1, 0), win(60, 60), win(60, 0, 59, 60), win(3600, 3600), win(5, math.MaxInt), win(5, math.MinInt), win(5, 1<<32),
		win(3, 1, 1), win(3, 0, 0), win(3, 2, 2), win(3, 2, 1), win(3, 0, 2, 1), win(3, 1, 0), win(5, 4, 3, 2, 1, 0), win(60, 0, 1, 2, 1, 3), win(3, 0, 1, 2, 0), win(3, 0, 1, 2, 3), win(3600, 100, 99),
		win(60, make([]int, 100000)...), win(1, make([]int, 2)...),
	}
}

// opens reports whether a window is open at an hour.
func opens(w api.Window, hour int) bool {
	return slices.Contains(w.Hours, hour%w.Period)
}

// allOpen reports whether all windows are.
func allOpen(l []api.Window, hour int) bool {
	return !slices.ContainsFunc(l, func(w api.Window) bool { return !opens(w, hour) })
}

// common returns the least number above 0 that all numbers divide.
func common(numbers ...int) int {
	most := slices.Max(numbers)
	for n := most; ; n += most {
		if !slices.ContainsFunc(numbers, func(number int) bool { return n%number != 0 }) {
			return n
		}
	}
}

// greatest returns the greatest number that divides both.
func greatest(a, b int) int {
	for n := b; ; n-- {
		if a%n == 0 && b%n == 0 {
			return n
		}
	}
}

// periods returns the periods of windows.
func periods(l []api.Window) []int {
	var n []int
	for _, w := range l {
		n = append(n, w.Period)
	}
	return n
}

// alike reports whether two windows are open at the same hours.
func alike(v, w api.Window) bool {
	for hour := range common(v.Period, w.Period) {
		if opens(v, hour) != opens(w, hour) {
			return false
		}
	}
	return true
}

// shortest returns the window with the least period that is open at the same hours.
func shortest(w api.Window) api.Window {
	for period := 1; ; period++ {
		if v := made(period, func(hour int) bool { return opens(w, hour) }); alike(v, w) {
			return v
		}
	}
}

// someLists returns lists of one to four windows whose period is not too great.
func someLists() [][]api.Window {
	source := rand.New(rand.NewPCG(5, 3))
	all := append(few(), many()...)
	var l [][]api.Window
	for len(l) < 400 {
		var list []api.Window
		for range source.IntN(api.MaxWindows) + 1 {
			list = append(list, all[source.IntN(len(all))])
		}
		if common(periods(list)...) <= 30000 {
			l = append(l, list)
		}
	}
	return l
}

// badRounds are not valid.
func badRounds() [][]api.Round {
	l := [][]api.Round{nil, {}, slices.Repeat([]api.Round{round(0, 1)}, 7), make([]api.Round, 6), make([]api.Round, 100000), slices.Repeat([]api.Round{round(1, 2)}, 100000)}
	for _, r := range []api.Round{
		{}, round(0, -1), round(0, 1001), round(1000, 1001), round(1, 0), round(1, 1), round(5, 5), round(6, 5), round(-1, 5), round(-5, 5), round(1000, 1000), round(-1, 1), round(-1, -5), round(-1, 0),
		round(math.MaxInt, 5), round(math.MinInt, 5), round(0, math.MaxInt), round(0, math.MinInt), round(math.MaxInt, math.MaxInt), round(0, 1<<32+5), round(1<<32, 5),
	} {
		l = append(l, []api.Round{r}, []api.Round{round(1, 4), round(2, 6), r}, []api.Round{r, round(1, 4), round(2, 6)}, []api.Round{round(0, 1), round(0, 1), r, round(0, 1), round(0, 1), round(0, 1)})
	}
	return l
}

// fewRounds returns all rounds with a small Every.
func fewRounds(most int) []api.Round {
	var l []api.Round
	for every := 1; every <= most; every++ {
		for at := range every {
			l = append(l, round(at, every))
		}
	}
	return l
}

// inAll reports whether an hour is in all rounds.
func inAll(l []api.Round, hour int) bool {
	return !slices.ContainsFunc(l, func(r api.Round) bool { return hour%r.Every != r.At })
}

// everys returns the Every of rounds.
func everys(l []api.Round) []int {
	var n []int
	for _, r := range l {
		n = append(n, r.Every)
	}
	return n
}

// meets returns the first hour at which rounds meet, and whether there is any.
func meets(l ...api.Round) (int, bool) {
	for hour := range common(everys(l)...) {
		if inAll(l, hour) {
			return hour, true
		}
	}
	return 0, false
}

// someRounds returns lists of one to six rounds that are short enough to look at all hours.
func someRounds() [][]api.Round {
	source := rand.New(rand.NewPCG(5, 4))
	var l [][]api.Round
	for len(l) < 2000 {
		n, hour, meeting := source.IntN(api.MaxRounds)+1, source.IntN(100000), source.IntN(2) == 0
		var list []api.Round
		for range n {
			every := source.IntN(40) + 1
			at := source.IntN(every)
			if meeting {
				at = hour % every
			}
			list = append(list, round(at, every))
		}
		if multipleUpTo(10000, everys(list)) {
			l = append(l, list)
		}
	}
	return l
}

// multipleUpTo reports whether all numbers divide one that is not above most.
func multipleUpTo(most int, numbers []int) bool {
	for n := 1; n <= most; n++ {
		if !slices.ContainsFunc(numbers, func(number int) bool { return n%number != 0 }) {
			return true
		}
	}
	return false
}

// pairs returns all pairs i < k of n things, compared by i, then k.
func pairs(n int) [][2]int {
	var l [][2]int
	for i := range n {
		for k := i + 1; k < n; k++ {
			l = append(l, [2]int{i, k})
		}
	}
	return l
}
