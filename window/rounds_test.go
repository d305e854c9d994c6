package window_test

import (
	"math"
	"math/big"
	"math/rand/v2"
	"slices"
	"testing"

	"skimmer/api"
	"skimmer/window"
)

// three are rounds that meet, as in the chapter's example; of four, two pairs never do.
var (
	three = []api.Round{round(2, 3), round(3, 5), round(2, 7)}
	four  = []api.Round{round(0, 1), round(1, 4), round(3, 6), round(2, 6)}
)

// checkMeet compares Meet with the hours told one by one.
func checkMeet(t *testing.T, l []api.Round) {
	t.Helper()
	at, every, err := window.Meet(l)
	if hour, ok := meets(l...); ok {
		check(t, "Meet", [2]int{at, every}, err, [2]int{hour, common(everys(l)...)}, api.OK)
	} else {
		check(t, "Meet", [2]int{at, every}, err, [2]int{}, api.ErrNone)
	}
}

// P5.6: one round, two, three and more.
func TestMeet(t *testing.T) {
	for _, r := range fewRounds(8) {
		checkMeet(t, []api.Round{r})
		for _, s := range fewRounds(8) {
			checkMeet(t, []api.Round{r, s})
		}
	}
	for _, r := range fewRounds(6) {
		for _, s := range fewRounds(6) {
			for _, u := range fewRounds(6) {
				checkMeet(t, []api.Round{r, s, u})
			}
		}
	}
	for _, l := range someRounds() {
		checkMeet(t, l)
	}
}

// P5.6: rounds that never meet, the same round twice, one and six.
func TestMeetKinds(t *testing.T) {
	for _, x := range []struct {
		l         []api.Round
		at, every int
		err       api.Errno
	}{
		{three, 23, 105, api.OK}, {four, 0, 0, api.ErrNone}, {four[:3], 9, 12, api.OK}, {four[:2], 1, 4, api.OK}, {four[:1], 0, 1, api.OK},
		{[]api.Round{round(1, 4), round(2, 6)}, 0, 0, api.ErrNone}, {[]api.Round{round(999, 1000)}, 999, 1000, api.OK}, {[]api.Round{round(0, 1000), round(1, 1000)}, 0, 0, api.ErrNone},
		{[]api.Round{round(3, 5), round(3, 5)}, 3, 5, api.OK}, {slices.Repeat([]api.Round{round(999, 1000)}, 6), 999, 1000, api.OK}, {slices.Repeat([]api.Round{round(0, 1)}, 6), 0, 1, api.OK},
		{[]api.Round{round(3, 4), round(1, 2)}, 3, 4, api.OK}, {[]api.Round{round(1, 2), round(3, 4)}, 3, 4, api.OK}, {[]api.Round{round(0, 2), round(3, 4)}, 0, 0, api.ErrNone},
		{[]api.Round{round(1, 2), round(2, 3), round(4, 5), round(6, 7), round(10, 11), round(12, 13)}, 30029, 30030, api.OK},
		// Only the last two never meet.
		{[]api.Round{round(1, 2), round(2, 3), round(4, 5), round(6, 7), round(3, 11), round(4, 11)}, 0, 0, api.ErrNone},
	} {
		at, every, err := window.Meet(x.l)
		check(t, "Meet", [2]int{at, every}, err, [2]int{x.at, x.every}, x.err)
	}
}

// P5.6, R5: rounds that meet so late that products on the way do not fit into 64 bits.
func TestMeetLate(t *testing.T) {
	late := [][]int{
		{1000, 999, 997, 991, 983, 977}, {977, 983, 991, 997, 999, 1000}, {999, 998, 997, 995, 991, 989}, {1000, 998, 996, 994, 992, 990}, {1000, 1000, 500, 250, 125, 999}, {997, 991, 983, 977, 971, 967},
	}
	source := rand.New(rand.NewPCG(5, 6))
	for range 300 {
		numbers := make([]int, api.MaxRounds)
		for i := range numbers {
			numbers[i] = 1 + source.IntN(api.MaxRound)
		}
		late = append(late, numbers)
	}
	for _, numbers := range late {
		every := bigCommon(numbers)
		for _, hour := range []int{0, 1, every - 1, every / 2, source.IntN(every), source.IntN(every)} {
			hour %= every
			var l []api.Round
			for _, number := range numbers {
				l = append(l, round(hour%number, number))
			}
			at, got, err := window.Meet(l)
			check(t, "Meet", [2]int{at, got}, err, [2]int{hour, every}, api.OK)
			checkLateHits(t, l, hour, every)
		}
	}
}

// checkLateHits asks Hits about the first two hours at which rounds meet, and about hours near them.
func checkLateHits(t *testing.T, l []api.Round, hour, every int) {
	t.Helper()
	for _, at := range []int{hour, hour + every} {
		is, err := window.Hits(l, at)
		check(t, "Hits", is, err, true, api.OK)
		is, err = window.Hits(l, at+1)
		check(t, "Hits", is, err, every == 1, api.OK)
	}
}

// bigCommon returns the least common multiple of numbers, formed without a limit.
func bigCommon(numbers []int) int {
	all := big.NewInt(1)
	for _, number := range numbers {
		n := big.NewInt(int64(number))
		d := new(big.Int).GCD(nil, nil, all, n)
		all.Mul(all, n.Div(n, d))
	}
	return int(all.Int64())
}

// P5.6: of several pairs the first one.
func TestNever(t *testing.T) {
	for _, l := range someRounds() {
		want, wantErr := [2]int{}, api.ErrNone
		for _, pair := range slices.Backward(pairs(len(l))) {
			if _, ok := meets(l[pair[0]], l[pair[1]]); !ok {
				want, wantErr = pair, api.OK
			}
		}
		i, k, err := window.Never(l)
		check(t, "Never", [2]int{i, k}, err, want, wantErr)
	}
	for _, x := range []struct {
		l    []api.Round
		i, k int
		err  api.Errno
	}{
		{four, 1, 3, api.OK}, {three, 0, 0, api.ErrNone}, {four[:3], 0, 0, api.ErrNone}, {three[:1], 0, 0, api.ErrNone}, {slices.Repeat(three[:1], 6), 0, 0, api.ErrNone},
		{[]api.Round{round(1, 4), round(2, 6)}, 0, 1, api.OK}, {[]api.Round{round(0, 1), round(0, 1), round(0, 1), round(0, 1), round(0, 2), round(1, 2)}, 4, 5, api.OK},
		// By i first, not by k.
		{[]api.Round{round(0, 6), round(1, 2), round(0, 1), round(1, 3), round(2, 9)}, 0, 1, api.OK}, {[]api.Round{round(0, 2), round(0, 3), round(1, 3), round(1, 2)}, 0, 3, api.OK},
	} {
		i, k, err := window.Never(x.l)
		check(t, "Never", [2]int{i, k}, err, [2]int{x.i, x.k}, x.err)
	}
}

// P5.6: all pairs of rounds with a small Every, and pairs of longer lists.
func TestIsNever(t *testing.T) {
	for _, r := range fewRounds(12) {
		for _, s := range fewRounds(12) {
			_, ok := meets(r, s)
			is, err := window.IsNever([]api.Round{r, s}, 0, 1)
			check(t, "IsNever", is, err, !ok, api.OK)
		}
	}
	for _, l := range someRounds() {
		for _, pair := range pairs(len(l)) {
			_, ok := meets(l[pair[0]], l[pair[1]])
			is, err := window.IsNever(l, pair[0], pair[1])
			check(t, "IsNever", is, err, !ok, api.OK)
		}
	}
	for pair, want := range map[[2]int]bool{{0, 1}: false, {0, 2}: false, {0, 3}: false, {1, 2}: false, {1, 3}: true, {2, 3}: true} {
		is, err := window.IsNever(four, pair[0], pair[1])
		check(t, "IsNever", is, err, want, api.OK)
	}
	for _, pair := range badPairs() {
		is, err := window.IsNever(four, pair[0], pair[1])
		check(t, "IsNever", is, err, false, api.ErrArg)
	}
}

// badPairs are not i < k of a list of four.
func badPairs() [][2]int {
	return [][2]int{{3, 1}, {1, 0}, {0, 0}, {3, 3}, {-1, 1}, {-1, 0}, {-2, -1}, {1, 4}, {3, 4}, {4, 5}, {0, 1 << 32}, {1 << 32, 1<<32 + 1}, {0, math.MaxInt}, {math.MinInt, 1}, {0, math.MinInt}, {math.MinInt, math.MinInt}, {math.MinInt, math.MaxInt}}
}

// P5.6: all hours, also above those of windows.
func TestHits(t *testing.T) {
	for _, l := range someRounds()[:300] {
		for hour := range 500 {
			for _, far := range []int{hour, farthest - 250 + hour, math.MaxInt - hour} {
				is, err := window.Hits(l, far)
				check(t, "Hits", is, err, inAll(l, far), api.OK)
			}
		}
	}
	for hour, want := range map[int]bool{23: true, 128: true, 22: false, 24: false, 2: false, 0: false, 105: false, 23 + 105*10000000000: true, 22 + 105*10000000000: false, math.MaxInt: false} {
		is, err := window.Hits(three, hour)
		check(t, "Hits", is, err, want, api.OK)
	}
	is, err := window.Hits(four[:1], math.MaxInt)
	check(t, "Hits", is, err, true, api.OK)
	for _, hour := range []int{-1, -82, -105, math.MinInt} {
		is, err := window.Hits(three, hour)
		check(t, "Hits", is, err, false, api.ErrArg)
	}
}
