package window_test

import (
	"math/rand/v2"
	"slices"
	"testing"

	"skimmer/api"
	"skimmer/window"
)

// couples returns windows two by two: all with short periods, and some of all periods.
func couples() [][2]api.Window {
	source := rand.New(rand.NewPCG(5, 7))
	var l [][2]api.Window
	for _, v := range few()[:30] {
		for _, w := range few()[:62] {
			l = append(l, [2]api.Window{v, w})
		}
	}
	all := append(few(), many()...)
	for range 300 {
		l = append(l, [2]api.Window{all[source.IntN(len(all))], all[source.IntN(len(all))]})
	}
	return l
}

// P5.7: Both and Either are open as they should, and Not of Either is the Same as Both of Not and Not.
func TestOpenAsTheyShould(t *testing.T) {
	source := rand.New(rand.NewPCG(5, 8))
	for _, pair := range couples() {
		v, w := pair[0], pair[1]
		both, either := must[api.Window](t, "Both")(window.Both(v, w)), must[api.Window](t, "Either")(window.Either(v, w))
		for i := range 70 {
			hour := i
			if i >= 60 {
				hour = source.IntN(farthest + 1)
			}
			one, other := must[bool](t, "Open")(window.Open(v, hour)), must[bool](t, "Open")(window.Open(w, hour))
			is, err := window.Open(both, hour)
			check(t, "Open of Both", is, err, one && other, api.OK)
			is, err = window.Open(either, hour)
			check(t, "Open of Either", is, err, one || other, api.OK)
		}
		notV, notW := must[api.Window](t, "Not")(window.Not(v)), must[api.Window](t, "Not")(window.Not(w))
		is, err := window.Same(must[api.Window](t, "Not")(window.Not(either)), must[api.Window](t, "Both")(window.Both(notV, notW)))
		check(t, "Same of Not of Either and Both of Not and Not", is, err, true, api.OK)
	}
}

// P5.7: Not of Not is the window, and so is Shifted there and back.
func TestThereAndBack(t *testing.T) {
	for _, w := range slices.Concat(few(), many(), wide()) {
		got, err := window.Not(must[api.Window](t, "Not")(window.Not(w)))
		checkWindow(t, "Not of Not", got, err, w, api.OK)
		for _, by := range shifts {
			there := must[api.Window](t, "Shifted")(window.Shifted(w, by))
			got, err = window.Shifted(there, -by)
			checkWindow(t, "Shifted there and back", got, err, w, api.OK)
		}
	}
}

// P5.7: Plain is the Same, its period divides that of the window, and no window with a lesser period is the Same.
func TestPlainIsLeast(t *testing.T) {
	for _, w := range slices.Concat(few(), many(), wide()) {
		plain := must[api.Window](t, "Plain")(window.Plain(w))
		is, err := window.Same(plain, w)
		check(t, "Same of Plain", is, err, true, api.OK)
		if plain.Period < 1 || w.Period%plain.Period != 0 {
			t.Errorf("%v: the period %d of Plain does not divide that of the window", w, plain.Period)
		}
		again, err := window.Plain(plain)
		checkWindow(t, "Plain of Plain", again, err, plain, api.OK)
		for period := 1; period < min(plain.Period, 100); period++ {
			// Of the windows with this period, no other one is open as w is at the first hours.
			is, err := window.Same(made(period, func(hour int) bool { return opens(w, hour) }), w)
			check(t, "Same of a lesser period", is, err, false, api.OK)
		}
	}
}

// P5.8: what Part of Not, of Both and of Either are.
func TestParts(t *testing.T) {
	for _, w := range slices.Concat(few(), many(), wide()) {
		part, not := must[api.Ratio](t, "Part")(window.Part(w)), must[api.Ratio](t, "Part")(window.Part(must[api.Window](t, "Not")(window.Not(w))))
		if not.D != part.D || not.N != part.D-part.N {
			t.Errorf("%v: Part %v, of Not %v", w, part, not)
		}
	}
	for _, pair := range couples() {
		v, w := pair[0], pair[1]
		one, other := must[api.Ratio](t, "Part")(window.Part(v)), must[api.Ratio](t, "Part")(window.Part(w))
		both := must[api.Ratio](t, "Part")(window.Part(must[api.Window](t, "Both")(window.Both(v, w))))
		either := must[api.Ratio](t, "Part")(window.Part(must[api.Window](t, "Either")(window.Either(v, w))))
		if (both.N*either.D+either.N*both.D)*one.D*other.D != (one.N*other.D+other.N*one.D)*both.D*either.D {
			t.Errorf("%v, %v: Parts %v, %v, of Both %v, of Either %v", v, w, one, other, both, either)
		}
		if greatest(v.Period, w.Period) == 1 && both.N*one.D*other.D != one.N*other.N*both.D {
			t.Errorf("%v, %v: Parts %v, %v, of Both %v", v, w, one, other, both)
		}
	}
}

// P5.9: Next is open, and no hour before it from the given one on is.
func TestNextIsFirst(t *testing.T) {
	for _, w := range slices.Concat(few(), many(), wide()) {
		for _, from := range []int{0, 1, 5, 59, 3600, 654321, farthest - 4000} {
			next, err := window.Next(w, from)
			if err == api.ErrNone {
				next = from + w.Period
			} else if is, err := window.Open(w, next); !is || err != api.OK {
				t.Errorf("%v is not open at %d, error %d", w, next, err)
			}
			for hour := from; hour < next; hour++ {
				is, err := window.Open(w, hour)
				check(t, "Open before Next", is, err, false, api.OK)
			}
		}
	}
}

// P5.9: First is open for all, no hour before it is, and Number's hours are what First finds in one period.
func TestFirstAndNumber(t *testing.T) {
	for _, l := range someLists() {
		n, period, err := window.Number(l)
		if err != api.OK {
			t.Fatalf("Number: error %d", err)
		}
		found := 0
		for from := 0; from < period; found++ {
			hour, err := window.First(l, from)
			if err == api.ErrNone || hour >= period {
				break
			}
			if hour < from || !allOpen(l, hour) {
				t.Fatalf("%v: First(%d) is %d", l, from, hour)
			}
			from = hour + 1
		}
		check(t, "First again and again", found, api.OK, n, api.OK)
		if _, err := window.First(l, 0); (err == api.ErrNone) != (n == 0) {
			t.Errorf("%v: Number %d, First: error %d", l, n, err)
		}
	}
}

// P5.10: rounds meet exactly if no two never meet.
func TestMeetOrNever(t *testing.T) {
	source := rand.New(rand.NewPCG(5, 9))
	lists := someRounds()
	for range 3000 {
		var l []api.Round
		for range source.IntN(3) + 1 {
			every := source.IntN(api.MaxRound) + 1
			l = append(l, round(source.IntN(every), every))
		}
		lists = append(lists, l)
	}
	for _, l := range lists {
		_, _, err := window.Meet(l)
		i, k, err2 := window.Never(l)
		switch {
		case err == api.OK:
			check(t, "Never of rounds that meet", [2]int{i, k}, err2, [2]int{}, api.ErrNone)
		case err != api.ErrNone || err2 != api.OK:
			t.Errorf("%v: Meet: error %d, Never: error %d", l, err, err2)
		default:
			is, err := window.IsNever(l, i, k)
			check(t, "IsNever of Never", is, err, true, api.OK)
		}
		for _, pair := range pairs(len(l)) {
			r, s := l[pair[0]], l[pair[1]]
			is, err := window.IsNever(l, pair[0], pair[1])
			check(t, "IsNever", is, err, (r.At-s.At)%greatest(r.Every, s.Every) != 0, api.OK)
			_, _, err = window.Meet([]api.Round{r, s})
			check(t, "Meet of two", err == api.ErrNone, api.OK, is, api.OK)
		}
	}
}

// P5.10: what Meet returns Hits, and so does each Every later; no earlier hour does, nor one between.
func TestMeetHits(t *testing.T) {
	for _, l := range someRounds() {
		at, every, err := window.Meet(l)
		if err != api.OK {
			continue
		}
		for hour := range min(at+2*every+1, 3000) {
			is, err := window.Hits(l, hour)
			check(t, "Hits", is, err, hour >= at && (hour-at)%every == 0, api.OK)
		}
		for _, n := range []int{0, 1, 2, 77, farthest, 1 << 40} {
			is, err := window.Hits(l, at+n*every)
			check(t, "Hits so much later", is, err, true, api.OK)
		}
	}
}
