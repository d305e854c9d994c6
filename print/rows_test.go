package print_test

import (
	"slices"
	"strings"
	"testing"

	"skimmer/api"
	"skimmer/print"
)

// longest returns of rows in order the first one of the longest.
func longest(rows []string) string {
	best := ""
	for _, row := range rows {
		if len(row) > len(best) {
			best = row
		}
	}
	return best
}

// P9.5: of several longest common rows the first one.
func TestCommon(t *testing.T) {
	for _, p := range short() {
		row, err := print.Common(p[0], p[1])
		check(t, "Common", row, err, longest(plainCommonRows(p[0], p[1])), api.OK)
	}
	more := drawn(5, 60, 9)
	for i := 1; i < len(more); i++ {
		row, err := print.Common(more[i-1], more[i])
		check(t, "Common", row, err, longest(plainCommonRows(more[i-1], more[i])), api.OK)
	}
	for _, p := range all() {
		row, err := print.Common(p[0], p[1])
		check(t, "Common", row, err, plainCommon(p[0], p[1]), api.OK)
	}
	for _, x := range [][3]string{
		{"abcd", "acbd", "abd"}, {"acbd", "abcd", "abd"}, {"", "", ""}, {"", "a", ""}, {"a", "", ""}, {"a", "a", "a"}, {"a", "b", ""}, {"ab", "ba", "a"}, {"ba", "ab", "a"}, {"hgfe", "efgh", "e"}, {"abcdefgh", "hgfedcba", "a"}, {"abcab", "bacba", "aba"}, {"bbaa", "aabb", "aa"}, {"bbbaa", "aabbb", "bbb"}, {"cbad", "abcd", "ad"}, {"dddd", "dd", "dd"},
		{"abcdefgh" + "abcdefgh" + "abcd", "abcdefgh" + "abcdefgh" + "abcd", "abcdefghabcdefghabcd"}, {strings.Repeat("ab", 10), strings.Repeat("ba", 10), strings.Repeat("ab", 9) + "a"}, {strings.Repeat("a", 20), strings.Repeat("b", 20), ""},
	} {
		row, err := print.Common(x[0], x[1])
		check(t, "Common", row, err, x[2], api.OK)
	}
}

// P9.5: rows that are empty, longer than a print, or in another order.
func TestIsCommon(t *testing.T) {
	rows := words(3, 4)
	for _, p := range short() {
		common := plainCommonRows(p[0], p[1])
		for _, row := range slices.Concat(rows[:40], common, []string{p[0], p[1], p[0] + "a", backwards(p[0]), backwards(p[1])}) {
			is, err := print.IsCommon(p[0], p[1], row)
			check(t, "IsCommon", is, err, slices.Contains(common, row), api.OK)
		}
	}
	for _, p := range [][2]string{{"abcd", "acbd"}, {"abcabc", "cbacba"}, {"aabbaa", "abab"}} {
		common := plainCommonRows(p[0], p[1])
		for _, row := range rows {
			is, err := print.IsCommon(p[0], p[1], row)
			check(t, "IsCommon", is, err, slices.Contains(common, row), api.OK)
		}
	}
	a := strings.Repeat("a", 20)
	for _, x := range []struct {
		s, t, row string
		want      bool
	}{
		{"abcd", "acbd", "acd", true}, {"abcd", "acbd", "abd", true}, {"abcd", "acbd", "bc", false}, {"abcd", "acbd", "", true}, {"", "", "", true}, {"", "", "a", false}, {"a", "a", "aa", false}, {"aa", "a", "aa", false}, {"a", "aa", "aa", false}, {"abcd", "acbd", "abcd", false}, {"abcd", "acbd", "acbd", false}, {"abc", "abc", "abc", true}, {"abc", "abc", "cba", false}, {"abc", "abc", "abca", false}, {"abc", "abc", "h", false},
		{a, a, a, true}, {a, a[1:], a, false}, {a[1:], a, a, false}, {a, a, a[1:], true}, {"b", a, "b", false}, {a, "b", "a", false},
	} {
		is, err := print.IsCommon(x.s, x.t, x.row)
		check(t, "IsCommon", is, err, x.want, api.OK)
	}
}

// P9.7.
func TestWays(t *testing.T) {
	for _, c := range allCosts() {
		for _, p := range short() {
			n, err := print.Ways(p[0], p[1], c)
			check(t, "Ways", n, err, len(plainCheapest(p[0], p[1], c)), api.OK)
		}
		for _, p := range all() {
			n, err := print.Ways(p[0], p[1], c)
			check(t, "Ways", n, err, plainRest(p[0], p[1], c).ways, api.OK)
		}
	}
	a, b := strings.Repeat("a", 20), strings.Repeat("b", 20)
	for _, x := range []struct {
		s, t        string
		put, change int
		want        int
	}{
		{"abcd", "acbd", 1, 1, 3}, {"abcd", "acbd", 1, 2, 2}, {"", "", 1, 1, 1}, {"a", "", 1, 1, 1}, {"a", "a", 9, 9, 1}, {"a", "b", 1, 1, 1}, {"a", "b", 1, 2, 3}, {"a", "b", 1, 3, 2}, {"aa", "a", 1, 1, 2}, {a, a, 1, 1, 1}, {a, "", 1, 1, 1}, {"", a, 1, 1, 1},
		// The most ways: whatever leads from the one to the other costs the same.
		{a, b, 1, 2, 260543813797441}, {a, b, 4, 8, 260543813797441}, {a, b, 1, 3, 137846528820}, {a, b, 2, 3, 1}, {a, a[:10], 9, 9, 184756}, {a[:10], a, 9, 9, 184756}, {a, "a", 1, 2, 20}, {"b", a, 1, 2, 41}, {"b", a, 1, 1, 20},
	} {
		n, err := print.Ways(x.s, x.t, costs(x.put, x.change))
		check(t, "Ways", n, err, x.want, api.OK)
	}
}

// P9.7.
func TestRows(t *testing.T) {
	for _, s := range slices.Concat(words(3, 5), drawn(6, 100, 10)) {
		n, err := print.Rows(s)
		check(t, "Rows", n, err, len(plainRows(s)), api.OK)
	}
	for _, s := range slices.Concat(long(), drawn(7, 200, api.MaxPrint)) {
		n, err := print.Rows(s)
		check(t, "Rows", n, err, plainCount(s), api.OK)
	}
	for s, want := range map[string]int{
		"": 1, "a": 2, "h": 2, "aa": 3, "ab": 4, "aba": 7, "aab": 6, "aaaa": 5, "abcd": 16, "abab": 12, "abcdefgh": 256, "hgfedcba": 256, strings.Repeat("a", 20): 21, strings.Repeat("h", 20): 21,
		// One less than the 23rd Fibonacci number.
		strings.Repeat("ab", 10): 28656, strings.Repeat("a", 10) + strings.Repeat("b", 10): 121,
	} {
		n, err := print.Rows(s)
		check(t, "Rows", n, err, want, api.OK)
	}
}
