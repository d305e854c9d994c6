package waste_test

import (
	"math/rand/v2"
	"slices"
	"testing"

	"skimmer/api"
	"skimmer/waste"
)

// P7.2.
func TestValid(t *testing.T) {
	for _, k := range all() {
		check(t, "Valid", waste.Valid(k), api.OK, true, api.OK)
	}
	for _, k := range badKinds() {
		if waste.Valid(k) {
			t.Errorf("Valid of %v", k.N)
		}
	}
	// All lists of two pairs, with numbers on both sides of the limits.
	for code := range 5 * 5 * 5 * 5 {
		one, two := [2]int{code%5 - 1, code/5%5 - 1}, [2]int{code/25%5 - 1, code/125 - 1}
		want := one != two
		for _, pair := range [][2]int{one, two} {
			want = want && 0 <= pair[0] && pair[0] < pair[1] && pair[1] < 3
		}
		k := api.Kinds{N: 3, Clash: [][2]int{one, two}}
		check(t, "Valid", waste.Valid(k), api.OK, want, api.OK)
	}
}

// P7.2: all fillings with few skips, and with many.
func TestRight(t *testing.T) {
	for _, k := range small() {
		for _, fill := range plainFillings(k.N, 3) {
			checkRight(t, k, fill)
		}
	}
	source := rand.New(rand.NewPCG(7, 2))
	for _, k := range all() {
		for _, below := range []int{1, 2, 4, 8, 1001} {
			for _, fill := range drawn(source, 5, k.N, below) {
				checkRight(t, k, fill)
			}
		}
		checkRight(t, k, plainFirst(k, plainFewest(k)))
	}
	for _, x := range []struct {
		k    api.Kinds
		fill []int
		want bool
	}{
		{kinds(1), []int{0}, true}, {kinds(1), []int{1000}, true}, {kinds(2), []int{1000, 1000}, true}, {kinds(2, 0, 1), []int{1000, 1000}, false},
		{kinds(2, 0, 1), []int{1000, 999}, true}, {full(8), []int{1000, 0, 999, 1, 500, 2, 3, 4}, true}, {full(8), []int{1000, 0, 999, 1, 500, 2, 3, 1000}, false},
	} {
		is, err := waste.Right(x.k, x.fill)
		check(t, "Right", is, err, x.want, api.OK)
	}
}

func checkRight(t *testing.T, k api.Kinds, fill []int) {
	t.Helper()
	is, err := waste.Right(k, fill)
	check(t, "Right", is, err, plainRight(k, fill), api.OK)
}

// P7.3: the polynomial has the right value at more places than its degree: it is the only one.
func TestPolyAndCount(t *testing.T) {
	for _, k := range all() {
		counts := plainCounts(k, 20)
		back := plainBack(counts, k.N, 10)
		poly, err := waste.Poly(k)
		check(t, "the length of Poly", len(poly), err, k.N+1, api.OK)
		for skips, want := range counts {
			check(t, "the value of Poly", plainValue(poly, skips), err, want, api.OK)
			n, err := waste.Count(k, skips)
			check(t, "Count", n, err, want, api.OK)
		}
		for i, want := range back {
			n, err := waste.Count(k, -1-i)
			check(t, "Count", n, err, want, api.OK)
		}
	}
	for _, k := range small() {
		for skips := range 5 {
			want := len(slices.DeleteFunc(plainFillings(k.N, skips), func(fill []int) bool { return !plainRight(k, fill) }))
			n, err := waste.Count(k, skips)
			check(t, "Count", n, err, want, api.OK)
		}
	}
}

// P7.3: the chapter's examples, and kinds of which none and all clash.
func TestPolyExamples(t *testing.T) {
	for _, x := range []struct {
		k    api.Kinds
		want []int
	}{
		{kinds(1), []int{0, 1}}, {full(3), []int{0, 2, -3, 1}}, {kinds(3, 0, 1, 1, 2), []int{0, 1, -2, 1}}, {kinds(3, 1, 2, 0, 1), []int{0, 1, -2, 1}},
		{kinds(2), []int{0, 0, 1}}, {kinds(2, 0, 1), []int{0, -1, 1}}, {kinds(8), []int{0, 0, 0, 0, 0, 0, 0, 0, 1}},
		{full(8), []int{0, -5040, 13068, -13132, 6769, -1960, 322, -28, 1}},
		{kinds(8, 6, 7, 0, 1, 4, 5, 2, 3), []int{0, 0, 0, 0, 1, -4, 6, -4, 1}},
		{kinds(5, 3, 4), []int{0, 0, 0, 0, -1, 1}},
	} {
		poly, err := waste.Poly(x.k)
		checkList(t, "Poly", poly, err, x.want, api.OK)
	}
	for _, x := range []struct {
		k           api.Kinds
		skips, want int
	}{
		{full(3), 3, 6}, {full(3), 0, 0}, {full(3), 1, 0}, {full(3), 2, 0}, {full(3), 20, 6840}, {full(3), -1, -6}, {full(3), -10, -1320},
		{kinds(1), 20, 20}, {kinds(1), 0, 0}, {kinds(1), 1, 1}, {kinds(1), -10, -10}, {kinds(8), 20, 25600000000}, {kinds(8), -10, 100000000}, {kinds(7), -10, -10000000}, {kinds(8), 1, 1}, {kinds(8), 0, 0},
		{full(8), 20, 5079110400}, {full(8), 8, 40320}, {full(8), 7, 0}, {full(8), -10, 980179200}, {full(8), -1, 40320},
	} {
		n, err := waste.Count(x.k, x.skips)
		check(t, "Count", n, err, x.want, api.OK)
	}
}

// P7.3: skips on both sides of the limits.
func TestCountOutOfRange(t *testing.T) {
	for _, k := range special() {
		for _, skips := range []int{-11, -12, 21, 22, 1000, 1 << 62, -1 << 63} {
			n, err := waste.Count(k, skips)
			check(t, "Count", n, err, 0, api.ErrArg)
		}
	}
}

// P7.4: First with 0 skips, 1 skip, one less than the fewest, the fewest, one more, and 20.
func TestFewestAndFirst(t *testing.T) {
	for _, k := range all() {
		fewest := plainFewest(k)
		n, err := waste.Fewest(k)
		check(t, "Fewest", n, err, fewest, api.OK)
		for _, skips := range []int{0, 1, fewest - 1} {
			if skips < fewest {
				checkFirst(t, k, skips, nil, api.ErrNone)
			}
		}
		for _, skips := range []int{fewest, fewest + 1, 8, 20} {
			checkFirst(t, k, skips, plainFirst(k, skips), api.OK)
		}
		for _, skips := range []int{-1, -2, 21, 22, 1 << 62, -1 << 63} {
			checkFirst(t, k, skips, nil, api.ErrArg)
		}
	}
	for _, k := range small() {
		for skips := range 5 {
			fills := plainFillings(k.N, skips)
			if i := slices.IndexFunc(fills, func(fill []int) bool { return plainRight(k, fill) }); i >= 0 {
				checkFirst(t, k, skips, fills[i], api.OK)
			} else {
				checkFirst(t, k, skips, nil, api.ErrNone)
			}
		}
	}
}

func checkFirst(t *testing.T, k api.Kinds, skips int, want []int, wantErr api.Errno) {
	t.Helper()
	fill, err := waste.First(k, skips)
	checkList(t, "First", fill, err, want, wantErr)
}

// P7.4: also where more skips make the first filling another one.
func TestFirstExamples(t *testing.T) {
	checkFirst(t, full(3), 3, []int{0, 1, 2}, api.OK)
	checkFirst(t, full(3), 2, nil, api.ErrNone)
	checkFirst(t, kinds(1), 0, nil, api.ErrNone)
	checkFirst(t, kinds(1), 1, []int{0}, api.OK)
	checkFirst(t, kinds(8), 1, make([]int, 8), api.OK)
	checkFirst(t, full(8), 8, []int{0, 1, 2, 3, 4, 5, 6, 7}, api.OK)
	checkFirst(t, full(8), 7, nil, api.ErrNone)
	// The path 0-2, 2-3, 3-1: two skips do, but the first filling with three has kinds 0 and 1 in one skip.
	path := kinds(4, 0, 2, 2, 3, 1, 3)
	checkFirst(t, path, 2, []int{0, 1, 1, 0}, api.OK)
	checkFirst(t, path, 3, []int{0, 0, 1, 2}, api.OK)
	for _, x := range []struct {
		k    api.Kinds
		want int
	}{{kinds(1), 1}, {kinds(8), 1}, {full(8), 8}, {full(3), 3}, {kinds(3, 0, 1, 1, 2), 2}, {ring(5), 3}, {ring(7), 3}, {ring(8), 2}, {sides(4, 4), 2}, {crown(), 2}, {path, 2}} {
		n, err := waste.Fewest(x.k)
		check(t, "Fewest", n, err, x.want, api.OK)
	}
}

// P7.4: all orders of few kinds, and some of many.
func TestLine(t *testing.T) {
	source := rand.New(rand.NewPCG(7, 4))
	for _, k := range all() {
		l := orders(min(k.N, 4))
		if k.N > 4 {
			l = nil
			for range 20 {
				l = append(l, source.Perm(k.N))
			}
		}
		for _, order := range l {
			fill, err := waste.Line(k, order)
			checkList(t, "Line", fill, err, plainLine(k, order), api.OK)
		}
	}
	path := kinds(4, 0, 1, 1, 2, 2, 3)
	for _, x := range []struct {
		k           api.Kinds
		order, want []int
	}{
		{path, []int{0, 1, 2, 3}, []int{0, 1, 0, 1}}, {path, []int{0, 3, 1, 2}, []int{0, 1, 2, 0}}, {path, []int{3, 2, 1, 0}, []int{1, 0, 1, 0}},
		{kinds(1), []int{0}, []int{0}}, {kinds(3), []int{2, 0, 1}, []int{0, 0, 0}}, {full(3), []int{2, 0, 1}, []int{1, 2, 0}},
		{full(8), []int{7, 6, 5, 4, 3, 2, 1, 0}, []int{7, 6, 5, 4, 3, 2, 1, 0}},
		{crown(), []int{0, 4, 1, 5, 2, 6, 3, 7}, []int{0, 1, 2, 3, 0, 1, 2, 3}}, {crown(), []int{0, 1, 2, 3, 4, 5, 6, 7}, []int{0, 0, 0, 0, 1, 1, 1, 1}},
	} {
		fill, err := waste.Line(x.k, x.order)
		checkList(t, "Line", fill, err, x.want, api.OK)
	}
}

// P7.4: orders too short and too long, and with kinds twice, below 0 or above the last.
func TestLineNone(t *testing.T) {
	for _, k := range all() {
		for _, order := range badOrders(k.N) {
			fill, err := waste.Line(k, order)
			checkList(t, "Line", fill, err, nil, api.ErrArg)
		}
	}
}

// P7.5: also where two lists are the longest.
func TestAllClashAndApart(t *testing.T) {
	for _, k := range all() {
		checkLongest(t, k, plainLongest(k, true), plainLongest(k, false))
	}
	for _, x := range []struct {
		k            api.Kinds
		clash, apart []int
	}{
		{kinds(1), []int{0}, []int{0}}, {kinds(3), []int{0}, []int{0, 1, 2}}, {full(3), []int{0, 1, 2}, []int{0}},
		{kinds(4, 1, 3), []int{1, 3}, []int{0, 1, 2}}, {ring(5), []int{0, 1}, []int{0, 2}}, {sides(4, 4), []int{0, 4}, []int{0, 1, 2, 3}}, {sides(1, 7), []int{0, 1}, []int{1, 2, 3, 4, 5, 6, 7}},
		{kinds(5, 0, 4, 1, 2, 1, 3, 2, 3), []int{1, 2, 3}, []int{0, 1}}, {kinds(6, 3, 5, 4, 5, 3, 4, 1, 2, 0, 1), []int{3, 4, 5}, []int{0, 2, 3}},
		{kinds(6, 0, 1, 0, 2, 1, 2, 3, 4, 3, 5, 4, 5), []int{0, 1, 2}, []int{0, 3}},
		{full(8), []int{0, 1, 2, 3, 4, 5, 6, 7}, []int{0}}, {kinds(8), []int{0}, []int{0, 1, 2, 3, 4, 5, 6, 7}},
	} {
		checkLongest(t, x.k, x.clash, x.apart)
	}
}

func checkLongest(t *testing.T, k api.Kinds, clash, apart []int) {
	t.Helper()
	l, err := waste.AllClash(k)
	checkList(t, "AllClash", l, err, clash, api.OK)
	l, err = waste.Apart(k)
	checkList(t, "Apart", l, err, apart, api.OK)
}

// P7.6: each pair, and indices that are none.
func TestWithoutAndJoined(t *testing.T) {
	for _, k := range all() {
		for pair := range k.Clash {
			rest, err := waste.Without(k, pair)
			checkKinds(t, "Without", rest, err, plainWithout(k, pair), api.OK)
			joined, err := waste.Joined(k, pair)
			checkKinds(t, "Joined", joined, err, plainJoined(k, pair), api.OK)
		}
		for _, pair := range badPlaces(len(k.Clash)) {
			rest, err := waste.Without(k, pair)
			checkKinds(t, "Without", rest, err, api.Kinds{}, api.ErrArg)
			joined, err := waste.Joined(k, pair)
			checkKinds(t, "Joined", joined, err, api.Kinds{}, api.ErrArg)
		}
	}
}

// P7.6: also a pair of which both clash with a third kind, and one whose greater kind gets the lesser number of a pair.
func TestWithoutAndJoinedExamples(t *testing.T) {
	four := kinds(4, 2, 3, 0, 1, 1, 2, 0, 3)
	for _, x := range []struct {
		k               api.Kinds
		pair            int
		without, joined api.Kinds
	}{
		{four, 0, kinds(4, 0, 1, 1, 2, 0, 3), kinds(3, 0, 1, 0, 2, 1, 2)}, {four, 1, kinds(4, 2, 3, 1, 2, 0, 3), kinds(3, 0, 1, 0, 2, 1, 2)}, {four, 3, kinds(4, 2, 3, 0, 1, 1, 2), kinds(3, 0, 1, 0, 2, 1, 2)},
		{kinds(4, 1, 3, 0, 1, 0, 3), 0, kinds(4, 0, 1, 0, 3), kinds(3, 0, 1)},
		{kinds(2, 0, 1), 0, kinds(2), kinds(1)}, {full(3), 2, kinds(3, 0, 1, 0, 2), kinds(2, 0, 1)},
		{kinds(4, 2, 3, 0, 3), 1, kinds(4, 2, 3), kinds(3, 0, 2)}, {kinds(5, 3, 4, 1, 2, 0, 4), 1, kinds(5, 3, 4, 0, 4), kinds(4, 0, 3, 2, 3)},
	} {
		rest, err := waste.Without(x.k, x.pair)
		checkKinds(t, "Without", rest, err, x.without, api.OK)
		joined, err := waste.Joined(x.k, x.pair)
		checkKinds(t, "Joined", joined, err, x.joined, api.OK)
	}
}

// P7.6.
func TestOther(t *testing.T) {
	for _, k := range all() {
		other, err := waste.Other(k)
		checkKinds(t, "Other", other, err, plainOther(k), api.OK)
	}
	for _, x := range []struct{ k, want api.Kinds }{
		{kinds(1), kinds(1)}, {kinds(2), kinds(2, 0, 1)}, {kinds(4, 1, 3, 0, 1), kinds(4, 0, 2, 0, 3, 1, 2, 2, 3)}, {full(4), kinds(4)}, {full(8), kinds(8)}, {kinds(8), full(8)},
	} {
		other, err := waste.Other(x.k)
		checkKinds(t, "Other", other, err, x.want, api.OK)
	}
}

// P7.6: several parts, also of one kind, whose kinds lie between each other.
func TestParts(t *testing.T) {
	for _, k := range all() {
		parts, err := waste.Parts(k)
		checkList(t, "Parts", parts, err, plainParts(k), api.OK)
	}
	for _, x := range []struct {
		k    api.Kinds
		want []int
	}{
		{kinds(1), []int{0}}, {kinds(3), []int{0, 1, 2}}, {full(8), make([]int, 8)}, {kinds(4, 1, 3), []int{0, 1, 2, 1}}, {kinds(6, 0, 3, 2, 5, 1, 4), []int{0, 1, 2, 0, 1, 2}},
		{kinds(8, 5, 7, 1, 3, 1, 7, 0, 6, 2, 4), []int{0, 1, 2, 1, 2, 1, 0, 1}}, {kinds(7, 1, 6, 3, 5, 1, 3), []int{0, 1, 2, 1, 3, 1, 1}}, {kinds(5, 3, 4), []int{0, 1, 2, 3, 3}},
	} {
		parts, err := waste.Parts(x.k)
		checkList(t, "Parts", parts, err, x.want, api.OK)
	}
}

// P7.7: all orders of loading of few pairs, and some of many, also ones that come about by loading.
func TestIsLoading(t *testing.T) {
	source := rand.New(rand.NewPCG(7, 7))
	rings := 0
	for _, k := range all() {
		l := [][]bool{}
		if len(k.Clash) <= 8 {
			l = lists(len(k.Clash))
		}
		for range 20 {
			before, order := make([]bool, len(k.Clash)), source.Perm(k.N)
			for i, pair := range k.Clash {
				before[i] = order[pair[0]] < order[pair[1]]
			}
			l = append(l, before)
			if len(before) > 0 {
				other := slices.Clone(before)
				at := source.IntN(len(other))
				other[at] = !other[at]
				l = append(l, other)
			}
		}
		for _, before := range l {
			want := plainIsLoading(k, before)
			if !want {
				rings++
			}
			is, err := waste.IsLoading(k, before)
			check(t, "IsLoading", is, err, want, api.OK)
		}
		for _, n := range []int{len(k.Clash) - 1, len(k.Clash) + 1, 100000} {
			if n >= 0 {
				is, err := waste.IsLoading(k, make([]bool, n))
				check(t, "IsLoading", is, err, false, api.ErrArg)
			}
		}
	}
	if rings < 500 {
		t.Errorf("only %d orders of loading make a ring", rings)
	}
}

// P7.7: rings, also ones that some kinds lead to or come behind, and kinds without pairs.
func TestIsLoadingExamples(t *testing.T) {
	three := kinds(3, 0, 1, 1, 2, 0, 2)
	led := kinds(5, 0, 1, 1, 2, 2, 3, 1, 3, 3, 4)
	for _, x := range []struct {
		k      api.Kinds
		before []bool
		want   bool
	}{
		{three, []bool{true, true, true}, true}, {three, []bool{true, true, false}, false}, {three, []bool{false, false, true}, false}, {three, []bool{false, false, false}, true}, {three, []bool{true, false, false}, true},
		{led, []bool{true, true, true, false, true}, false}, {led, []bool{true, true, true, true, true}, true}, {led, []bool{false, false, false, true, false}, false},
		{kinds(2), nil, true}, {kinds(1), []bool{}, true}, {kinds(2, 0, 1), []bool{false}, true}, {ring(8), []bool{false, true, true, true, true, true, true, true}, false}, {ring(8), []bool{true, true, true, true, true, true, true, true}, true},
		{full(8), slices.Repeat([]bool{true}, 28), true}, {full(8), slices.Repeat([]bool{false}, 28), true}, {full(8), append(slices.Repeat([]bool{true}, 27), false), true}, {full(8), append([]bool{true, false}, slices.Repeat([]bool{true}, 26)...), false},
	} {
		is, err := waste.IsLoading(x.k, x.before)
		check(t, "IsLoading", is, err, x.want, api.OK)
	}
	for _, before := range [][]bool{nil, {true}, {true, true}, {true, true, true, true}} {
		is, err := waste.IsLoading(three, before)
		check(t, "IsLoading", is, err, false, api.ErrArg)
	}
	is, err := waste.IsLoading(kinds(2), []bool{true})
	check(t, "IsLoading", is, err, false, api.ErrArg)
}

// P7.7.
func TestLoadings(t *testing.T) {
	all := slices.Concat(small(), some(7, 40, 5, 7), []api.Kinds{kinds(8), full(8), ring(8), sides(4, 4), sides(1, 7), kinds(8, 6, 7, 0, 1, 4, 5, 2, 3)})
	for _, k := range all {
		n, err := waste.Loadings(k)
		check(t, "Loadings", n, err, plainLoadings(k, orders(k.N)), api.OK)
	}
	for _, x := range []struct {
		k    api.Kinds
		want int
	}{{full(3), 6}, {kinds(3, 0, 1, 1, 2), 4}, {kinds(1), 1}, {kinds(8), 1}, {full(8), 40320}, {kinds(8, 0, 7), 2}, {ring(4), 14}, {ring(5), 30}, {ring(8), 254}} {
		n, err := waste.Loadings(x.k)
		check(t, "Loadings", n, err, x.want, api.OK)
	}
}

// P7.7: fillings with few and with many skips, right or not.
func TestClears(t *testing.T) {
	source := rand.New(rand.NewPCG(7, 8))
	for _, k := range all() {
		l := [][]int{plainFirst(k, plainFewest(k))}
		for _, below := range []int{2, 4, 8, 1001} {
			l = append(l, drawn(source, 5, k.N, below)...)
		}
		for _, fill := range l {
			want, wantErr := []bool{}, api.OK
			for _, pair := range k.Clash {
				want = append(want, fill[pair[0]] < fill[pair[1]])
			}
			if !plainRight(k, fill) {
				want, wantErr = nil, api.ErrNone
			}
			before, err := waste.Clears(k, fill)
			checkList(t, "Clears", before, err, want, wantErr)
		}
	}
	path := kinds(4, 0, 1, 1, 2, 2, 3)
	for _, x := range []struct {
		k    api.Kinds
		fill []int
		want []bool
		err  api.Errno
	}{
		{path, []int{0, 1, 0, 5}, []bool{true, false, true}, api.OK}, {path, []int{0, 0, 1, 0}, nil, api.ErrNone}, {path, []int{1000, 999, 1000, 0}, []bool{false, true, false}, api.OK},
		{kinds(2), []int{3, 3}, nil, api.OK}, {kinds(2, 0, 1), []int{3, 3}, nil, api.ErrNone}, {kinds(3, 1, 2, 0, 1), []int{2, 1, 0}, []bool{false, false}, api.OK}, {kinds(3, 1, 2, 0, 1), []int{0, 1, 0}, []bool{false, true}, api.OK},
	} {
		before, err := waste.Clears(x.k, x.fill)
		checkList(t, "Clears", before, err, x.want, x.err)
	}
}
