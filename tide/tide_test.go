package tide_test

import (
	"math"
	"math/rand/v2"
	"reflect"
	"slices"
	"testing"

	"skimmer/api"
	"skimmer/tide"
)

const example = "3,0,-3;1,-1"

// read returns the tide of a text.
func read(t *testing.T, text string) [][]int {
	t.Helper()
	x, err := tide.Parse(text)
	if err != api.OK {
		t.Fatalf("Parse(%q): error %d", text, err)
	}
	return x
}

// right returns a result that came without an error.
func right[R any](t *testing.T, result R, err api.Errno) R {
	t.Helper()
	if err != api.OK {
		t.Fatalf("error %d", err)
	}
	return result
}

// check compares a result and its error with those wanted.
func check[R any](t *testing.T, name string, got R, err api.Errno, want R, wantErr api.Errno) {
	t.Helper()
	if err != wantErr || !reflect.DeepEqual(got, want) {
		t.Errorf("%s: %v, error %d, want %v, error %d", name, got, err, want, wantErr)
	}
}

// plainSpeed is the definition of a speed, word by word.
func plainSpeed(x [][]int, hour int) int {
	sum := 0
	for _, wave := range x {
		at := hour % len(wave)
		if at < 0 {
			at += len(wave)
		}
		sum += wave[at]
	}
	return sum
}

// plainDrift is the definition of a drift, word by word.
func plainDrift(x [][]int, from, n int) int {
	sum := 0
	for i := range n {
		sum += plainSpeed(x, from+i)
	}
	return sum
}

// plainRound is the first number that all lengths divide.
func plainRound(x [][]int) int {
	for n := 1; ; n++ {
		if !slices.ContainsFunc(x, func(wave []int) bool { return n%len(wave) != 0 }) {
			return n
		}
	}
}

// repeats tells whether the speeds at all hours and n hours later are the same.
func repeats(x [][]int, n int) bool {
	for hour := range plainRound(x) {
		if plainSpeed(x, hour) != plainSpeed(x, hour+n) {
			return false
		}
	}
	return true
}

// tides returns tides of all kinds, the same ones for every test.
func tides(t *testing.T) [][][]int {
	t.Helper()
	var l [][][]int
	for _, text := range []string{
		example, "0", "5", "-5", "1,2,1,2", "1,2;2,1", "1,-1;0,0,0", "0,1,0;0,0,7,0", "100;100;100;100", "-100,100;100,-100",
		"1,2,3,4,5,6,7,8,9,10,11,12", "0,0,0,0,0,0,0,0,0,0,0,1;0,0,0,0,0,0,0,0,0,0,0,-1", "1,1,2,1,1,2", "1,0,0;0,1,0;0,0,1", "1,2,3;-1,-2,-3",
	} {
		l = append(l, read(t, text))
	}
	source := rand.New(rand.NewPCG(1, 2))
	for range 150 {
		most := []int{1, 3, api.MaxSpeed}[source.IntN(3)]
		x := make([][]int, 1+source.IntN(api.MaxWaves))
		for i := range x {
			x[i] = make([]int, 1+source.IntN([]int{4, 7, api.MaxSteps}[source.IntN(3)]))
			for k := range x[i] {
				x[i][k] = source.IntN(2*most+1) - most
			}
		}
		l = append(l, x)
	}
	return l
}

// hours are hours at and around all ends.
var hours = []int{-api.MaxHour, -api.MaxHour + 1, -13, -12, -7, -2, -1, 0, 1, 2, 5, 11, 12, 100, api.MaxHour - 1, api.MaxHour}

// badHours are no hours.
var badHours = []int{api.MaxHour + 1, -api.MaxHour - 1, math.MaxInt, math.MinInt}

// badSpans are no numbers of hours.
var badSpans = []int{-1, api.MaxHour + 1, math.MaxInt, math.MinInt}

// badTides are not valid.
func badTides() [][][]int {
	return [][][]int{
		nil, {}, {nil}, {{}}, {{1}, nil}, {nil, {1}}, {{1}, {2}, {3}, {}},
		{{1}, {2}, {3}, {4}, {5}}, make([][]int, 1000), {make([]int, 13)}, {{1}, make([]int, 13)},
		{{101}}, {{-101}}, {{1, 2, 101}}, {{1}, {0, -101}}, {{math.MaxInt}}, {{math.MinInt}},
	}
}

// P1.1: a tide that is not valid comes before any other error, and every other result is zero.
func TestOrderOfErrors(t *testing.T) {
	x := read(t, "1;2;3")
	for _, bad := range badTides() {
		for _, hour := range append([]int{0}, badHours...) {
			speed, err := tide.Speed(bad, hour)
			check(t, "Speed", speed, err, 0, api.ErrTide)
			for _, n := range append([]int{1}, badSpans...) {
				drift, err := tide.Drift(bad, hour, n)
				check(t, "Drift", drift, err, 0, api.ErrTide)
			}
			slack, err := tide.Slack(bad, hour)
			check(t, "Slack", slack, err, 0, api.ErrTide)
			shifted, err := tide.Shifted(bad, hour)
			check(t, "Shifted", shifted, err, nil, api.ErrTide)
		}
		for _, n := range append([]int{1}, badSpans...) {
			at, drift, err := tide.Farthest(bad, n)
			check(t, "Farthest", [2]int{at, drift}, err, [2]int{}, api.ErrTide)
		}
		round, err := tide.Round(bad)
		check(t, "Round", round, err, 0, api.ErrTide)
		net, err := tide.Net(bad)
		check(t, "Net", net, err, 0, api.ErrTide)
		beat, err := tide.Beat(bad)
		check(t, "Beat", beat, err, 0, api.ErrTide)
		once, err := tide.Once(bad)
		check(t, "Once", once, err, nil, api.ErrTide)
		at, speed, err := tide.Highest(bad)
		check(t, "Highest", [2]int{at, speed}, err, [2]int{}, api.ErrTide)
		back, err := tide.Back(bad)
		check(t, "Back", back, err, nil, api.ErrTide)
		text, err := tide.Format(bad)
		check(t, "Format", text, err, "", api.ErrTide)
		for _, pair := range [][2][][]int{{bad, x}, {x, bad}, {bad, bad}} {
			sum, err := tide.Sum(pair[0], pair[1])
			check(t, "Sum", sum, err, nil, api.ErrTide)
			same, err := tide.Same(pair[0], pair[1])
			check(t, "Same", same, err, false, api.ErrTide)
		}
	}
}

// P1.4: with Slack, an hour that is none comes before slack that there is not.
func TestOrderOfErrorsOfSlack(t *testing.T) {
	for _, hour := range badHours {
		n, err := tide.Slack(read(t, "1"), hour)
		check(t, "Slack", n, err, 0, api.ErrArg)
	}
}

// P1.2: which tides are valid.
func TestValid(t *testing.T) {
	full := make([]int, api.MaxSteps)
	for i := range full {
		full[i] = []int{api.MaxSpeed, -api.MaxSpeed}[i%2]
	}
	for _, x := range [][][]int{{{0}}, {{100}}, {{-100}}, {{1}, {1, 2}}, {full}, {full, full, full, full}} {
		if !tide.Valid(x) {
			t.Errorf("Valid(%v): false", x)
		}
	}
	for _, x := range badTides() {
		if tide.Valid(x) {
			t.Errorf("Valid(%v): true", x)
		}
	}
}

// P1.2: a speed is the sum of the waves', also below 0 and at the ends.
func TestSpeed(t *testing.T) {
	x := read(t, example)
	for i, want := range []int{4, -1, -2, 2, 1, -4, 4, -1} {
		speed, err := tide.Speed(x, i)
		check(t, "Speed", speed, err, want, api.OK)
	}
	for i, want := range []int{4, -4, 1, 2, -2, -1, 4, -4} {
		speed, err := tide.Speed(x, -i)
		check(t, "Speed", speed, err, want, api.OK)
	}
	for _, x := range tides(t) {
		for _, hour := range hours {
			speed, err := tide.Speed(x, hour)
			check(t, "Speed", speed, err, plainSpeed(x, hour), api.OK)
		}
		for _, hour := range badHours {
			speed, err := tide.Speed(x, hour)
			check(t, "Speed", speed, err, 0, api.ErrArg)
		}
	}
}

// P1.2: a drift is the sum of the speeds of its hours.
func TestDrift(t *testing.T) {
	for _, x := range tides(t) {
		for _, from := range hours {
			for _, n := range []int{0, 1, 2, 3, 11, 12, 13, 100} {
				drift, err := tide.Drift(x, from, n)
				check(t, "Drift", drift, err, plainDrift(x, from, n), api.OK)
			}
		}
	}
}

// P1.2: the ends of what Drift takes, and what is past them.
func TestDriftEnds(t *testing.T) {
	for _, x := range [][][]int{read(t, example), read(t, "1,2,1,2"), read(t, "100;100;100;100"), read(t, "-100,-100,-99;-100;-100;-100")} {
		for _, from := range []int{-api.MaxHour, 0, api.MaxHour} {
			drift, err := tide.Drift(x, from, api.MaxHour)
			check(t, "Drift", drift, err, plainDrift(x, from, api.MaxHour), api.OK)
			for _, n := range badSpans {
				drift, err := tide.Drift(x, from, n)
				check(t, "Drift", drift, err, 0, api.ErrArg)
			}
		}
		for _, from := range badHours {
			for _, n := range []int{0, 1, api.MaxHour, -1} {
				drift, err := tide.Drift(x, from, n)
				check(t, "Drift", drift, err, 0, api.ErrArg)
			}
		}
	}
}

// P1.3: the round, the drift over it, the beat and the speeds of the beat.
func TestRoundNetBeatOnce(t *testing.T) {
	for _, c := range []struct {
		text             string
		round, net, beat int
		once             []int
	}{
		{example, 6, 0, 6, []int{4, -1, -2, 2, 1, -4}},
		{"1,2,1,2", 4, 6, 2, []int{1, 2}},
		{"5", 1, 5, 1, []int{5}},
		{"0,0,0", 3, 0, 1, []int{0}},
		{"1,0;0,1", 2, 2, 1, []int{1}},
		{"1,-1;0,0,0", 6, 0, 2, []int{1, -1}},
		{"1,2,3,1,2,4", 6, 13, 6, []int{1, 2, 3, 1, 2, 4}}, // begins anew at 3, and differs only at the end
		{"1,2,1", 3, 4, 3, []int{1, 2, 1}},                 // the first two and last two hours agree, but 2 does not divide 3
		{"1,1,2,1,1,2;0", 6, 8, 3, []int{1, 1, 2}},
	} {
		x := read(t, c.text)
		round, err := tide.Round(x)
		check(t, "Round", round, err, c.round, api.OK)
		net, err := tide.Net(x)
		check(t, "Net", net, err, c.net, api.OK)
		beat, err := tide.Beat(x)
		check(t, "Beat", beat, err, c.beat, api.OK)
		once, err := tide.Once(x)
		check(t, "Once", once, err, c.once, api.OK)
	}
}

// P1.3: the longest round of all.
func TestLongestRound(t *testing.T) {
	x := [][]int{make([]int, 7), make([]int, 9), make([]int, 10), make([]int, 11)}
	for i := range x {
		x[i][0] = 1
	}
	round, err := tide.Round(x)
	check(t, "Round", round, err, 6930, api.OK)
	beat, err := tide.Beat(x)
	check(t, "Beat", beat, err, 6930, api.OK)
	net, err := tide.Net(x)
	check(t, "Net", net, err, 990+770+693+630, api.OK)
	at, speed, err := tide.Highest(x)
	check(t, "Highest", [2]int{at, speed}, err, [2]int{0, 4}, api.OK)
}

// P1.4: the first slack from an hour on.
func TestSlack(t *testing.T) {
	for _, c := range []struct {
		text       string
		from, want int
		err        api.Errno
	}{
		{"1,0;0,0,2", 0, 1, api.OK},
		{"1,0;0,0,2", 1, 1, api.OK},
		{"1,0;0,0,2", 2, 3, api.OK},
		{"1,0;0,0,2", -5, -5, api.OK},
		{"1,0;0,0,2", -2, 1, api.OK}, // -1 is 1 modulo 2, but 2 modulo 3
		{"1,0", api.MaxHour, api.MaxHour + 1, api.OK},
		{"0,1", -api.MaxHour, -api.MaxHour, api.OK},
		{"1,1,1,1,1,1,1,1,1,1,1,0", api.MaxHour, 1000007, api.OK}, // 1000007 is 11 modulo 12
		{example, 0, 0, api.ErrNone},
		{"1", -api.MaxHour, 0, api.ErrNone},
		{"1,-1;0,0,0", api.MaxHour, 0, api.ErrNone},
	} {
		n, err := tide.Slack(read(t, c.text), c.from)
		check(t, "Slack of "+c.text, n, err, c.want, c.err)
	}
}

// P1.4: Slack finds what looking hour by hour finds.
func TestSlackHourByHour(t *testing.T) {
	for _, x := range tides(t) {
		for _, from := range hours {
			want, wantErr := 0, api.ErrNone
			for i := range plainRound(x) {
				if plainSpeed(x, from+i) == 0 {
					want, wantErr = from+i, api.OK
					break
				}
			}
			n, err := tide.Slack(x, from)
			check(t, "Slack", n, err, want, wantErr)
		}
	}
}

// P1.4: the greatest speed, at the first of several equal hours.
func TestHighest(t *testing.T) {
	for _, c := range []struct {
		text      string
		at, speed int
	}{
		{example, 0, 4},
		{"1,2,1,2", 1, 2},
		{"0,0", 0, 0},
		{"-3,-2,-2", 1, -2},
		{"-100", 0, -100},
		{"0,1,0;0,0,7,0", 10, 8},
		{"0,0,0,0,0,0,0,0,0,0,0,1", 11, 1},
	} {
		at, speed, err := tide.Highest(read(t, c.text))
		check(t, "Highest of "+c.text, [2]int{at, speed}, err, [2]int{c.at, c.speed}, api.OK)
	}
}

// P1.4: the greatest drift, from the first of several equal hours.
func TestFarthest(t *testing.T) {
	for _, c := range []struct {
		text         string
		n, at, drift int
	}{
		{example, 0, 0, 0},
		{example, 1, 0, 4},
		{example, 2, 0, 3}, // as from 3
		{example, 3, 0, 1},
		{example, 6, 0, 0},
		{example, api.MaxHour, 0, 3},
		{"1,2,1,2", 1, 1, 2},
		{"1,2,1,2", 2, 0, 3},
		{"-1,-5,-2", 2, 2, -3},
		{"100;100;100;100", api.MaxHour, 0, 400000000},
		{"-100;-100;-100;-100", api.MaxHour, 0, -400000000},
	} {
		x := read(t, c.text)
		at, drift, err := tide.Farthest(x, c.n)
		check(t, "Farthest of "+c.text, [2]int{at, drift}, err, [2]int{c.at, c.drift}, api.OK)
		for _, n := range badSpans {
			at, drift, err := tide.Farthest(x, n)
			check(t, "Farthest", [2]int{at, drift}, err, [2]int{}, api.ErrArg)
		}
	}
}

// P1.5: tides of other tides.
func TestShiftedBackSum(t *testing.T) {
	x := read(t, example)
	for _, c := range []struct {
		by   int
		want string
	}{
		{0, example}, {1, "0,-3,3;-1,1"}, {2, "-3,3,0;1,-1"}, {6, example}, {-1, "-3,3,0;-1,1"}, {-6, example},
		{api.MaxHour, "0,-3,3;1,-1"}, {-api.MaxHour, "-3,3,0;1,-1"},
	} {
		shifted, err := tide.Shifted(x, c.by)
		check(t, "Shifted", shifted, err, read(t, c.want), api.OK)
	}
	for _, by := range badHours {
		shifted, err := tide.Shifted(x, by)
		check(t, "Shifted", shifted, err, nil, api.ErrArg)
	}
	back, err := tide.Back(x)
	check(t, "Back", back, err, read(t, "-3,3,0;-1,1"), api.OK)
	back, err = tide.Back(read(t, "1,2,3,4"))
	check(t, "Back", back, err, read(t, "-1,-4,-3,-2"), api.OK)
	sum, err := tide.Sum(x, read(t, "7;1,2"))
	check(t, "Sum", sum, err, read(t, "3,0,-3;1,-1;7;1,2"), api.OK)
	for _, u := range []string{"1;2;3", "1;2;3;4"} {
		sum, err = tide.Sum(x, read(t, u))
		check(t, "Sum", sum, err, nil, api.ErrLimit)
		sum, err = tide.Sum(read(t, u), x)
		check(t, "Sum", sum, err, nil, api.ErrLimit)
	}
}

// P1.5: which tides are the same.
func TestSame(t *testing.T) {
	for _, c := range []struct {
		t, u string
		want bool
	}{
		{example, example, true}, {"1,0;0,1", "1", true}, {"1,2", "1,2,1,2", true}, {"1;2", "3,3,3", true}, {"1,2;3,4,5", "3,4,5;1,2", true},
		{"1,2", "2,1", false}, {"1,2", "1,2,1", false}, {"1", "1,2", false}, {"1,2,3", "1,2,4", false}, {"0", "1", false},
		{"1,2,1,2,1,3", "1,2", false}, {"0,0,0", "1,-1;-1,1", true},
	} {
		x, y := read(t, c.t), read(t, c.u)
		same, err := tide.Same(x, y)
		check(t, "Same of "+c.t+" and "+c.u, same, err, c.want, api.OK)
		same, err = tide.Same(y, x)
		check(t, "Same of "+c.u+" and "+c.t, same, err, c.want, api.OK)
	}
}

// R4: arguments are neither changed nor kept, lists are read up to their length alone, and results share no memory.
func TestMemory(t *testing.T) {
	wide := append(make([]int, 0, 20), 3, 0, -3)
	x := append(make([][]int, 0, 20), wide, []int{1, -1})
	wave := []int{5}
	twice := [][]int{wave, wave}
	calls := []func() [][]int{
		func() [][]int { y, err := tide.Shifted(x, 0); return right(t, y, err) },
		func() [][]int { y, err := tide.Back(x); return right(t, y, err) },
		func() [][]int { y, err := tide.Sum(x, twice); return right(t, y, err) },
		func() [][]int { y, err := tide.Sum(x, x); return right(t, y, err) },
		func() [][]int { y, err := tide.Sum(twice, twice); return right(t, y, err) },
	}
	for _, call := range calls {
		changed, before := call(), call()
		for i := range changed {
			for k := range changed[i] {
				changed[i][k] += 1000
			}
		}
		for i := range changed {
			for k := range changed[i] {
				if changed[i][k] != before[i][k]+1000 {
					t.Errorf("two waves of %v share memory", before)
				}
			}
		}
		if !reflect.DeepEqual(call(), before) {
			t.Errorf("%v shares memory with an argument", before)
		}
	}
	if !reflect.DeepEqual(x, [][]int{{3, 0, -3}, {1, -1}}) || !slices.Equal(wave, []int{5}) {
		t.Errorf("an argument was changed: %v, %v", x, wave)
	}
	if rest := x[:3]; rest[2] != nil || !slices.Equal(wide[:5], []int{3, 0, -3, 0, 0}) {
		t.Errorf("what lies beyond a list was written")
	}
}
