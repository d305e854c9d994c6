package tide_test

import (
	"slices"
	"testing"

	"skimmer/api"
	"skimmer/tide"
)

// P1.7: the speeds repeat after n hours exactly if the beat divides n, and the beat divides the round.
func TestRounds(t *testing.T) {
	for _, x := range tides(t) {
		round, err := tide.Round(x)
		check(t, "Round", round, err, plainRound(x), api.OK)
		beat, err := tide.Beat(x)
		if err != api.OK || beat < 1 || round%beat != 0 {
			t.Fatalf("Beat(%v): %d, %d, with the round %d", x, beat, err, round)
		}
		for n := 1; n <= min(2*round, 60); n++ {
			if repeats(x, n) != (n%beat == 0) {
				t.Errorf("%v has the beat %d, and repeats after %d: %v", x, beat, n, repeats(x, n))
			}
		}
		once, err := tide.Once(x)
		right(t, once, err)
		if len(once) != beat {
			t.Errorf("Once(%v): %d hours, with the beat %d", x, len(once), beat)
		}
		for hour := range round {
			if once[hour%beat] != plainSpeed(x, hour) {
				t.Errorf("Once(%v) is not right at %d", x, hour)
			}
		}
	}
}

// P1.7: the drift over a round is Net, from whatever hour.
func TestNetFromAnywhere(t *testing.T) {
	for _, x := range tides(t) {
		net, err := tide.Net(x)
		check(t, "Net", net, err, plainDrift(x, 0, plainRound(x)), api.OK)
		for _, from := range hours {
			drift, err := tide.Drift(x, from, plainRound(x))
			check(t, "Drift over a round", drift, err, net, api.OK)
		}
	}
}

// P1.8: drifts go on where others end, and whole rounds drift by Net.
func TestDriftsGoOn(t *testing.T) {
	for _, x := range tides(t) {
		round := plainRound(x)
		for _, from := range []int{-api.MaxHour, -17, -1, 0, 5, 1000} {
			for _, n := range []int{0, 1, 4, round, 2*round + 3} {
				for _, m := range []int{0, 1, 7, round - 1} {
					one := number(t)(tide.Drift(x, from, n))
					two := number(t)(tide.Drift(x, from+n, m))
					both, err := tide.Drift(x, from, n+m)
					check(t, "Drift over both", both, err, one+two, api.OK)
				}
				net := number(t)(tide.Net(x))
				left := number(t)(tide.Drift(x, from, n%round))
				drift, err := tide.Drift(x, from, n)
				check(t, "Drift by rounds", drift, err, n/round*net+left, api.OK)
			}
		}
	}
}

// number returns a function that passes on a number that came without an error.
func number(t *testing.T) func(int, api.Errno) int {
	return func(n int, err api.Errno) int {
		t.Helper()
		return right(t, n, err)
	}
}

// P1.9: the speeds of Sum, and Net and the speeds of Shifted.
func TestOtherTides(t *testing.T) {
	all := tides(t)
	for i, x := range all {
		u := all[(i*7+3)%len(all)]
		sum, err := tide.Sum(x, u)
		if len(x)+len(u) > api.MaxWaves {
			check(t, "Sum", sum, err, nil, api.ErrLimit)
		} else {
			for _, hour := range hours {
				speed, err := tide.Speed(sum, hour)
				check(t, "Speed of Sum", speed, err, plainSpeed(x, hour)+plainSpeed(u, hour), api.OK)
			}
		}
		for _, by := range hours {
			shifted, err := tide.Shifted(x, by)
			right(t, shifted, err)
			for hour := -5; hour < 20; hour++ {
				speed, err := tide.Speed(shifted, hour)
				check(t, "Speed of Shifted", speed, err, plainSpeed(x, hour+by), api.OK)
			}
			net, err := tide.Net(shifted)
			check(t, "Net of Shifted", net, err, plainDrift(x, 0, plainRound(x)), api.OK)
			same, err := tide.Same(x, shifted)
			check(t, "Same of Shifted", same, err, repeats(x, by), api.OK)
		}
		beat := number(t)(tide.Beat(x))
		shifted, err := tide.Shifted(x, beat)
		right(t, shifted, err)
		same, err := tide.Same(x, shifted)
		check(t, "Same of Shifted by the beat", same, err, true, api.OK)
	}
}

// P1.9: Back is the tide run backwards.
func TestBackwards(t *testing.T) {
	for _, x := range tides(t) {
		back, err := tide.Back(x)
		right(t, back, err)
		again, err := tide.Back(back)
		check(t, "Back of Back", again, err, x, api.OK)
		for _, hour := range hours {
			speed, err := tide.Speed(back, hour)
			check(t, "Speed of Back", speed, err, -plainSpeed(x, -hour), api.OK)
			for _, n := range []int{0, 1, 2, 13, 40} {
				drift, err := tide.Drift(back, hour, n)
				check(t, "Drift of Back", drift, err, -plainDrift(x, 1-hour-n, n), api.OK)
			}
		}
	}
}

// P1.9: two tides are the Same exactly if their Once are equal, and if no hour tells them apart.
func TestSameOnce(t *testing.T) {
	all := tides(t)
	for i, x := range all {
		for _, u := range append(all[:20:20], all[i], all[(i+1)%len(all)]) {
			one, err := tide.Once(x)
			right(t, one, err)
			other, err := tide.Once(u)
			right(t, other, err)
			same, err := tide.Same(x, u)
			check(t, "Same", same, err, slices.Equal(one, other), api.OK)
			if same != alike(x, u) {
				t.Errorf("Same(%v, %v): %v", x, u, same)
			}
		}
	}
}

// alike compares two tides hour by hour, until both repeat.
func alike(x, u [][]int) bool {
	for hour := range plainRound(append(slices.Clone(x), u...)) {
		if plainSpeed(x, hour) != plainSpeed(u, hour) {
			return false
		}
	}
	return true
}

// first returns the first hour of a round with the greatest value, and this value.
func first(round int, at func(hour int) int) [2]int {
	best := [2]int{0, at(0)}
	for hour := range round {
		if at(hour) > best[1] {
			best = [2]int{hour, at(hour)}
		}
	}
	return best
}

// P1.10: nothing is greater than Highest and Farthest, and nothing as great comes earlier.
func TestEnds(t *testing.T) {
	for _, x := range tides(t) {
		round := plainRound(x)
		at, speed, err := tide.Highest(x)
		want := first(round, func(hour int) int { return plainSpeed(x, hour) })
		check(t, "Highest", [2]int{at, speed}, err, want, api.OK)
		for _, n := range []int{0, 1, 2, 3, 7, 12} {
			at, drift, err := tide.Farthest(x, n)
			want := first(round, func(hour int) int { return plainDrift(x, hour, n) })
			check(t, "Farthest", [2]int{at, drift}, err, want, api.OK)
		}
		for _, hour := range hours {
			for _, n := range []int{0, 1, 5, 1000, api.MaxHour} {
				_, drift, err := tide.Farthest(x, n)
				right(t, drift, err)
				if got := number(t)(tide.Drift(x, hour, n)); got > drift || plainSpeed(x, hour) > speed {
					t.Errorf("%v: from %d over %d: %d, above %d", x, hour, n, got, drift)
				}
			}
		}
	}
}

// P1.10: with the Net 0, no drift is greater than all of less than a round.
func TestEndsWithoutNet(t *testing.T) {
	found := 0
	for _, x := range tides(t) {
		round := plainRound(x)
		if number(t)(tide.Net(x)) != 0 {
			continue
		}
		found++
		for _, from := range []int{-api.MaxHour, -1, 0, 3, api.MaxHour} {
			most := 0
			for n := range round {
				most = max(most, number(t)(tide.Drift(x, from, n)))
			}
			for _, n := range []int{round, round + 1, 3*round - 1, 12345, api.MaxHour} {
				if drift := number(t)(tide.Drift(x, from, n)); drift > most {
					t.Errorf("%v: from %d over %d: %d, above %d", x, from, n, drift, most)
				}
			}
		}
	}
	if found < 5 {
		t.Errorf("only %d tides have the Net 0", found)
	}
}
