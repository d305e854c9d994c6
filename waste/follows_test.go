package waste_test

import (
	"math/rand/v2"
	"slices"
	"testing"

	"skimmer/api"
	"skimmer/waste"
)

// P7.8: the polynomial's value is Count; its numbers are what the pairs and the parts say.
func TestPolynomial(t *testing.T) {
	for _, k := range all() {
		poly := must[[]int](t, "Poly")(waste.Poly(k))
		for skips := -10; skips <= 20; skips++ {
			n, err := waste.Count(k, skips)
			check(t, "Count", n, err, plainValue(poly, skips), api.OK)
		}
		if len(poly) != k.N+1 || poly[k.N] != 1 || poly[0] != 0 || poly[k.N-1] != -len(k.Clash) {
			t.Errorf("Poly of %v: %v", k, poly)
		}
		for i, n := range poly {
			if n != 0 && n > 0 != ((k.N-i)%2 == 0) {
				t.Errorf("Poly of %v: %v, signs that do not alternate", k, poly)
			}
		}
		parts := must[[]int](t, "Parts")(waste.Parts(k))
		if least := slices.IndexFunc(poly, func(n int) bool { return n != 0 }); least != slices.Max(parts)+1 {
			t.Errorf("Poly of %v: %v, Parts %v", k, poly, parts)
		}
	}
}

// P7.8, and P8 of the document: a pair is left out, less where it is joined.
func TestTwoWays(t *testing.T) {
	for _, k := range all() {
		poly := must[[]int](t, "Poly")(waste.Poly(k))
		for pair := range k.Clash {
			without, err := waste.Without(k, pair)
			more := must[[]int](t, "Poly of Without")(waste.Poly(without))
			check(t, "Without", len(more), err, len(poly), api.OK)
			joined, err := waste.Joined(k, pair)
			for i, n := range must[[]int](t, "Poly of Joined")(waste.Poly(joined)) {
				more[i] -= n
			}
			checkList(t, "Poly of Without, less that of Joined", more, err, poly, api.OK)
		}
	}
}

// P7.9: First with Fewest skips is right, and there is none with one less.
func TestFewest(t *testing.T) {
	for _, k := range all() {
		fewest := must[int](t, "Fewest")(waste.Fewest(k))
		fill := must[[]int](t, "First")(waste.First(k, fewest))
		is, err := waste.Right(k, fill)
		check(t, "Right of First", is, err, true, api.OK)
		fill, err = waste.First(k, fewest-1)
		checkList(t, "First", fill, err, nil, api.ErrNone)
		clash, apart := must[[]int](t, "AllClash")(waste.AllClash(k)), must[[]int](t, "Apart")(waste.Apart(k))
		if fewest < len(clash) || fewest*len(apart) < k.N {
			t.Errorf("Fewest of %v: %d, AllClash %v, Apart %v", k, fewest, clash, apart)
		}
		other := must[api.Kinds](t, "Other")(waste.Other(k))
		l, err := waste.AllClash(other)
		checkList(t, "AllClash of Other", l, err, apart, api.OK)
	}
}

// P7.9: Line is right, and uses Fewest skips for some order.
func TestLines(t *testing.T) {
	source := rand.New(rand.NewPCG(7, 9))
	for _, k := range all() {
		fewest := must[int](t, "Fewest")(waste.Fewest(k))
		l := [][]int{}
		if k.N <= 5 {
			l = orders(k.N)
		}
		for range 20 {
			l = append(l, source.Perm(k.N))
		}
		// Skip after skip of a filling with the fewest skips: no kind comes into a later one than it has there.
		fill := must[[]int](t, "First")(waste.First(k, fewest))
		var best []int
		for skip := range fewest {
			for kind, at := range fill {
				if at == skip {
					best = append(best, kind)
				}
			}
		}
		least := api.MaxKinds + 1
		for _, order := range append(l, best) {
			line := must[[]int](t, "Line")(waste.Line(k, order))
			is, err := waste.Right(k, line)
			check(t, "Right of Line", is, err, true, api.OK)
			least = min(least, slices.Max(line)+1)
		}
		check(t, "the least of Line", least, api.OK, fewest, api.OK)
	}
}

// P7.10: Loadings is Count at -1, but for the sign.
func TestLoadingsAndCount(t *testing.T) {
	for _, k := range all() {
		n, err := waste.Count(k, -1)
		if k.N%2 == 1 {
			n = -n
		}
		loadings := must[int](t, "Loadings")(waste.Loadings(k))
		check(t, "Count at -1, but for the sign", n, err, loadings, api.OK)
		if len(k.Clash) > 10 {
			continue
		}
		right := 0
		for _, before := range lists(len(k.Clash)) {
			if must[bool](t, "IsLoading")(waste.IsLoading(k, before)) {
				right++
			}
		}
		check(t, "the right orders of loading", right, api.OK, loadings, api.OK)
	}
}

// P7.10: Clears of a right filling is a right order of loading.
func TestClearsIsLoading(t *testing.T) {
	source := rand.New(rand.NewPCG(7, 10))
	for _, k := range all() {
		fills := [][]int{must[[]int](t, "First")(waste.First(k, 20))}
		for range 10 {
			fills = append(fills, must[[]int](t, "Line")(waste.Line(k, source.Perm(k.N))))
		}
		for _, fill := range append(fills, drawn(source, 10, k.N, 1001)...) {
			if !must[bool](t, "Right")(waste.Right(k, fill)) {
				continue
			}
			before := must[[]bool](t, "Clears")(waste.Clears(k, fill))
			is, err := waste.IsLoading(k, before)
			check(t, "IsLoading of Clears", is, err, true, api.OK)
		}
	}
}

// P7.11: one pair less never makes Count less, nor Fewest more.
func TestOnePairLess(t *testing.T) {
	for _, k := range all() {
		fewest := must[int](t, "Fewest")(waste.Fewest(k))
		for pair := range k.Clash {
			rest := must[api.Kinds](t, "Without")(waste.Without(k, pair))
			if n := must[int](t, "Fewest")(waste.Fewest(rest)); n > fewest {
				t.Errorf("Fewest of %v: %d, without pair %d: %d", k, fewest, pair, n)
			}
			for _, skips := range []int{0, 1, 2, 3, 4, 5, 8, 20} {
				n, more := must[int](t, "Count")(waste.Count(k, skips)), must[int](t, "Count")(waste.Count(rest, skips))
				if more < n {
					t.Errorf("Count of %v: %d, without pair %d: %d", k, n, pair, more)
				}
			}
		}
	}
}
