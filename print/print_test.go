package print_test

import (
	"slices"
	"strings"
	"testing"

	"skimmer/api"
	"skimmer/print"
)

// P9.2.
func TestValid(t *testing.T) {
	for _, s := range slices.Concat([]string{"", "a", "h", "abcdefgh", "hhaabbgg"}, long()) {
		check(t, "Valid", print.Valid(s), api.OK, true, api.OK)
	}
	for _, s := range badPrints() {
		check(t, "Valid", print.Valid(s), api.OK, false, api.OK)
	}
	for b := range 256 {
		check(t, "Valid", print.Valid(string([]byte{byte(b)})), api.OK, strings.Contains(alphabet, string([]byte{byte(b)})), api.OK)
	}
}

// P9.2.
func TestValidCosts(t *testing.T) {
	for put := 1; put <= 9; put++ {
		for change := 1; change <= 9; change++ {
			check(t, "ValidCosts", print.ValidCosts(costs(put, change)), api.OK, true, api.OK)
		}
	}
	for _, c := range badCosts() {
		check(t, "ValidCosts", print.ValidCosts(c), api.OK, false, api.OK)
	}
}

// P9.2: the least cost of all edits.
func TestDistance(t *testing.T) {
	for _, c := range allCosts() {
		for _, p := range short() {
			n, err := print.Distance(p[0], p[1], c)
			check(t, "Distance", n, err, plainCost(plainCheapest(p[0], p[1], c)[0], c), api.OK)
		}
		for _, p := range all() {
			n, err := print.Distance(p[0], p[1], c)
			check(t, "Distance", n, err, plainRest(p[0], p[1], c).distance, api.OK)
		}
	}
}

// P9.2: the example, prints that are empty, one peak, equal, without anything in common, and each other backwards.
func TestDistanceExamples(t *testing.T) {
	a, b := strings.Repeat("a", 20), strings.Repeat("b", 20)
	for _, x := range []struct {
		s, t        string
		put, change int
		want        int
	}{
		{"abcd", "acbd", 1, 1, 2}, {"abcd", "acbd", 1, 9, 2}, {"abcd", "acbd", 9, 1, 2}, {"abcd", "acbd", 9, 9, 18},
		{"", "", 9, 9, 0}, {"", "a", 1, 9, 1}, {"a", "", 9, 1, 9}, {"a", "a", 9, 9, 0}, {"a", "h", 1, 1, 1}, {"a", "h", 1, 2, 2}, {"a", "h", 1, 3, 2}, {"a", "h", 2, 3, 3}, {"a", "h", 2, 5, 4}, {"a", "h", 9, 1, 1}, {"a", "h", 1, 9, 2},
		{a, a, 9, 9, 0}, {a, "", 9, 1, 180}, {"", b, 9, 1, 180}, {a, b, 9, 9, 180}, {a, b, 9, 1, 20}, {a, b, 1, 9, 40}, {a, b, 4, 9, 160}, {a, b, 5, 9, 180}, {a, b[1:], 5, 9, 176}, {a, "b", 2, 3, 41}, {a, "a", 2, 3, 38},
		{"abcdefgh", "hgfedcba", 1, 2, 14}, {"abcdefgh", "hgfedcba", 9, 1, 8}, {"abcdefgh", "hgfedcba", 1, 1, 8}, {"abc", "cba", 1, 1, 2}, {"ab", "ba", 2, 9, 4}, {"abab", "baba", 1, 1, 2},
	} {
		n, err := print.Distance(x.s, x.t, costs(x.put, x.change))
		check(t, "Distance", n, err, x.want, api.OK)
	}
}

// plainDistances returns how far each print of a list is from a print.
func plainDistances(l []string, s string, c api.Costs) []int {
	var distances []int
	for _, other := range l {
		distances = append(distances, plainRest(other, s, c).distance)
	}
	return distances
}

// plainFirst returns the index of the first one of the least numbers, and this number.
func plainFirst(l []int) (at, least int) {
	for i, n := range l {
		if n < l[at] {
			at = i
		}
	}
	return at, l[at]
}

// P9.6.
func TestNearest(t *testing.T) {
	for _, l := range lists() {
		for _, s := range slices.Concat(l[:1], l[len(l)-1:], []string{"", "ab", strings.Repeat("h", 20)}, drawn(3, 3, 8)) {
			for _, c := range allCosts()[:8] {
				i, n, err := print.Nearest(l, s, c)
				at, least := plainFirst(plainDistances(l, s, c))
				check(t, "Nearest", i, err, at, api.OK)
				check(t, "Nearest", n, err, least, api.OK)
			}
		}
	}
	for _, x := range []struct {
		l        []string
		s        string
		at, want int
	}{
		{[]string{"abc", "ab", "b", "ab"}, "a", 1, 1}, {[]string{"abc", "ab", "b", "ab"}, "ab", 1, 0}, {[]string{"abc", "ab", "b", "ab"}, "b", 2, 0}, {[]string{"a"}, strings.Repeat("b", 20), 0, 20}, {[]string{""}, "", 0, 0},
		{[]string{"h", "g", "f", "e", "d", "c", "b", "a"}, "a", 7, 0}, {[]string{"a", "a", "a", "a", "a", "a", "a", "a"}, "a", 0, 0}, {[]string{"h", "g", "f", "e", "d", "c", "b", "ab"}, "aa", 7, 1},
	} {
		i, n, err := print.Nearest(x.l, x.s, costs(1, 1))
		check(t, "Nearest", i, err, x.at, api.OK)
		check(t, "Nearest", n, err, x.want, api.OK)
	}
}

// P9.6: numbers from 0 to 1000.
func TestWithin(t *testing.T) {
	for _, l := range lists() {
		for _, s := range slices.Concat(l[:1], l[len(l)-1:], []string{"", "ab", strings.Repeat("h", 20)}, drawn(4, 3, 8)) {
			for _, c := range allCosts()[:4] {
				far := plainDistances(l, s, c)
				for _, most := range []int{0, 1, 2, 3, 5, 8, 13, 21, 50, 180, 999, 1000} {
					var want []int
					for i, n := range far {
						if n <= most {
							want = append(want, i)
						}
					}
					got, err := print.Within(l, s, c, most)
					checkList(t, "Within", got, err, want, api.OK)
				}
			}
		}
	}
	l := []string{"abc", "ab", "b", "ab", "a", "", "a", "hhhh"}
	for _, x := range []struct {
		most int
		want []int
	}{{0, []int{4, 6}}, {1, []int{1, 2, 3, 4, 5, 6}}, {2, []int{0, 1, 2, 3, 4, 5, 6}}, {3, []int{0, 1, 2, 3, 4, 5, 6}}, {4, []int{0, 1, 2, 3, 4, 5, 6, 7}}, {1000, []int{0, 1, 2, 3, 4, 5, 6, 7}}} {
		got, err := print.Within(l, "a", costs(1, 1), x.most)
		checkList(t, "Within", got, err, x.want, api.OK)
	}
	got, err := print.Within([]string{strings.Repeat("a", 20)}, strings.Repeat("b", 20), costs(9, 9), 179)
	checkList(t, "Within", got, err, nil, api.OK)
	got, err = print.Within([]string{strings.Repeat("a", 20)}, strings.Repeat("b", 20), costs(9, 9), 180)
	checkList(t, "Within", got, err, []int{0}, api.OK)
}

// P9.6.
func TestMiddle(t *testing.T) {
	for _, l := range lists() {
		for _, c := range allCosts() {
			var sums []int
			for _, s := range l {
				sum := 0
				for _, n := range plainDistances(l, s, c) {
					sum += n
				}
				sums = append(sums, sum)
			}
			at, least := plainFirst(sums)
			i, n, err := print.Middle(l, c)
			check(t, "Middle", i, err, at, api.OK)
			check(t, "Middle", n, err, least, api.OK)
		}
	}
	a, b := strings.Repeat("a", 20), strings.Repeat("b", 20)
	for _, x := range []struct {
		l        []string
		at, want int
	}{
		{[]string{"abc", "ab", "b", "ab"}, 1, 18}, {[]string{"a"}, 0, 0}, {[]string{""}, 0, 0}, {[]string{a, b}, 0, 180}, {[]string{b, a, a}, 1, 180}, {[]string{a, a, a, a, b, b, b, b}, 0, 720}, {[]string{"", a, "", a, a, "", "", a}, 0, 720}, {[]string{"", "a", "aa", "aaa", "aaaa", "aaaaa", "aaaaaa", "aaaaaaa"}, 3, 144}, {[]string{"a", "b", "c", "d", "e", "f", "g", "h"}, 0, 63},
	} {
		i, n, err := print.Middle(x.l, costs(9, 9))
		check(t, "Middle", i, err, x.at, api.OK)
		check(t, "Middle", n, err, x.want, api.OK)
	}
}
