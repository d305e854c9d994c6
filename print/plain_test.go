package print_test

import (
	"math/rand/v2"
	"reflect"
	"slices"
	"strings"
	"testing"

	"skimmer/api"
)

// This file has what the other tests share: prints and costs, and the chapter's terms told word by word, to compare with.

// check compares a result and its error with those wanted.
func check[R any](t *testing.T, name string, got R, err api.Errno, want R, wantErr api.Errno) {
	t.Helper()
	if err != wantErr || !reflect.DeepEqual(got, want) {
		t.Errorf("%s: %v, error %d, want %v, error %d", name, got, err, want, wantErr)
	}
}

// checkList is check for lists, where nil and empty are the same.
func checkList[R comparable](t *testing.T, name string, got []R, err api.Errno, want []R, wantErr api.Errno) {
	t.Helper()
	if err != wantErr || !slices.Equal(got, want) {
		t.Errorf("%s: %v, error %d, want %v, error %d", name, got, err, want, wantErr)
	}
}

// must returns a result that has no error.
func must[R any](t *testing.T, name string) func(got R, err api.Errno) R {
	return func(got R, err api.Errno) R {
		t.Helper()
		if err != api.OK {
			t.Fatalf("%s: error %d", name, err)
		}
		return got
	}
}

func costs(put, change int) api.Costs { return api.Costs{Put: put, Change: change} }

// allCosts returns costs of 1 and of 9, with Change less than, equal to, twice and more than twice Put, and others near to these.
func allCosts() []api.Costs {
	return []api.Costs{costs(1, 1), costs(1, 2), costs(1, 3), costs(2, 1), costs(2, 3), costs(2, 4), costs(2, 5), costs(4, 7), costs(4, 8), costs(4, 9), costs(1, 9), costs(9, 1), costs(9, 9)}
}

const alphabet = "abcdefgh"

// words returns all prints of so many peaks at most, from so many letters.
func words(letters, most int) []string {
	l := []string{""}
	for at := 0; len(l[at]) < most; at++ {
		for i := range letters {
			l = append(l, l[at]+alphabet[i:i+1])
		}
	}
	return l
}

// long returns prints of 20 peaks, or nearly as many.
func long() []string {
	l := []string{strings.Repeat("a", 20), strings.Repeat("h", 20), strings.Repeat("ab", 10), strings.Repeat("ba", 10), strings.Repeat("abc", 6) + "ab", strings.Repeat(alphabet, 2) + "abcd", "hgfe" + strings.Repeat("dcbahgfe", 2), strings.Repeat("a", 10) + strings.Repeat("b", 10), strings.Repeat("a", 19), strings.Repeat("a", 10)}
	return append(l, backwards(l[5]), backwards(l[7]))
}

func backwards(s string) string {
	peaks := []byte(s)
	slices.Reverse(peaks)
	return string(peaks)
}

// drawn returns so many prints of at most so many peaks.
func drawn(seed uint64, prints, most int) []string {
	source := rand.New(rand.NewPCG(9, seed))
	var l []string
	for range prints {
		letters := 1 + source.IntN(8)
		var peaks []byte
		for range source.IntN(most + 1) {
			peaks = append(peaks, alphabet[source.IntN(letters)])
		}
		l = append(l, string(peaks))
	}
	return l
}

// short returns pairs of prints that have few edits.
func short() [][2]string {
	l := [][2]string{{"abcd", "acbd"}, {"abcde", "edcba"}, {"aaaaa", "bbbbb"}, {"aaaaa", "aaaaa"}, {"abcab", "bacba"}, {"abcde", "fgh"}, {"hhhh", "h"}, {"", "hgfed"}, {"hgfed", ""}}
	for _, s := range words(2, 3) {
		for _, t := range words(3, 2) {
			l = append(l, [2]string{s, t})
		}
	}
	others := drawn(1, 120, 5)
	for i := 1; i < len(others); i++ {
		l = append(l, [2]string{others[i-1], others[i]})
	}
	return l
}

// all returns short pairs and long ones.
func all() [][2]string {
	l := short()
	for _, s := range long() {
		l = append(l, [2]string{s, ""}, [2]string{"", s}, [2]string{"d", s}, [2]string{s, "ba"})
		for _, t := range long() {
			l = append(l, [2]string{s, t})
		}
	}
	others := drawn(2, 60, api.MaxPrint)
	for i := 1; i < len(others); i++ {
		l = append(l, [2]string{others[i-1], others[i]})
	}
	return l
}

// plainAll returns all edits, those that come first in front.
func plainAll(s, t string) [][]int {
	if s == "" && t == "" {
		return [][]int{{}}
	}
	var l [][]int
	begin := func(edit int, rest [][]int) {
		for _, edits := range rest {
			l = append(l, slices.Concat([]int{edit}, edits))
		}
	}
	if s != "" && t != "" && s[0] == t[0] {
		begin(api.EditKeep, plainAll(s[1:], t[1:]))
	}
	if s != "" && t != "" && s[0] != t[0] {
		begin(api.EditChange, plainAll(s[1:], t[1:]))
	}
	if s != "" {
		begin(api.EditLeave, plainAll(s[1:], t))
	}
	if t != "" {
		begin(api.EditPut, plainAll(s, t[1:]))
	}
	return l
}

func plainCost(l []int, c api.Costs) int {
	cost := 0
	for _, edit := range l {
		cost += []int{0, 0, c.Change, c.Put, c.Put}[edit]
	}
	return cost
}

// plainCheapest returns the edits of the least cost.
func plainCheapest(s, t string, c api.Costs) [][]int {
	var cheapest [][]int
	for _, l := range plainAll(s, t) {
		if len(cheapest) > 0 && plainCost(l, c) < plainCost(cheapest[0], c) {
			cheapest = nil
		}
		if len(cheapest) == 0 || plainCost(l, c) == plainCost(cheapest[0], c) {
			cheapest = append(cheapest, l)
		}
	}
	return cheapest
}

// rest is what a pair still has for edits: its distance, the edits that come first, and how many there are.
type rest struct {
	distance, ways int
	edits          []int
}

// plainRests returns the rests of a pair behind so many peaks of both, for prints that have too many edits to go through.
func plainRests(s, t string, c api.Costs) map[[2]int]rest {
	rests := map[[2]int]rest{{len(s), len(t)}: {0, 1, nil}}
	for i := len(s); i >= 0; i-- {
		for k := len(t); k >= 0; k-- {
			if i == len(s) && k == len(t) {
				continue
			}
			best := rest{distance: 1000}
			take := func(edit, cost int, then rest) {
				if cost += then.distance; cost < best.distance {
					best = rest{cost, 0, slices.Concat([]int{edit}, then.edits)}
				}
				if cost == best.distance {
					best.ways += then.ways
				}
			}
			if i < len(s) && k < len(t) && s[i] == t[k] {
				take(api.EditKeep, 0, rests[[2]int{i + 1, k + 1}])
			}
			if i < len(s) && k < len(t) && s[i] != t[k] {
				take(api.EditChange, c.Change, rests[[2]int{i + 1, k + 1}])
			}
			if i < len(s) {
				take(api.EditLeave, c.Put, rests[[2]int{i + 1, k}])
			}
			if k < len(t) {
				take(api.EditPut, c.Put, rests[[2]int{i, k + 1}])
			}
			rests[[2]int{i, k}] = best
		}
	}
	return rests
}

func plainRest(s, t string, c api.Costs) rest {
	return plainRests(s, t, c)[[2]int{0, 0}]
}

// plainFar returns the distances of all beginnings: as those are far numbers, and no others can be greater.
func plainFar(s, t string, c api.Costs) [][]int {
	// The rests of the prints the other way round are their beginnings.
	rests := plainRests(backwards(s), backwards(t), c)
	var far [][]int
	for i := range len(s) + 1 {
		var row []int
		for k := range len(t) + 1 {
			row = append(row, rests[[2]int{len(s) - i, len(t) - k}].distance)
		}
		far = append(far, row)
	}
	return far
}

func plainProves(s, t string, far [][]int, c api.Costs, n int) bool {
	for i, row := range far {
		for k, number := range row {
			if i > 0 && number > far[i-1][k]+c.Put || k > 0 && number > row[k-1]+c.Put {
				return false
			}
			if i > 0 && k > 0 && s[i-1] == t[k-1] && number > far[i-1][k-1] || i > 0 && k > 0 && s[i-1] != t[k-1] && number > far[i-1][k-1]+c.Change {
				return false
			}
		}
	}
	return far[0][0] == 0 && far[len(s)][len(t)] >= n
}

// plainRows returns the prints that one gets by leaving out peaks, in order.
func plainRows(s string) []string {
	rows := map[string]bool{}
	for in := range 1 << len(s) {
		var row []byte
		for i := range len(s) {
			if in>>i&1 == 1 {
				row = append(row, s[i])
			}
		}
		rows[string(row)] = true
	}
	var l []string
	for row := range rows {
		l = append(l, row)
	}
	slices.Sort(l)
	return l
}

// plainCommonRows returns all common rows, in order.
func plainCommonRows(s, t string) []string {
	of := plainRows(t)
	return slices.DeleteFunc(plainRows(s), func(row string) bool { return !slices.Contains(of, row) })
}

// plainCommon returns the longest common row of prints that have too many rows to go through: letter by letter the first one with which the row can still get so long. One may take each letter where it comes next.
func plainCommon(s, t string) string {
	left := plainCommonLength(s, t)
	for _, letter := range alphabet {
		i, k := strings.IndexRune(s, letter), strings.IndexRune(t, letter)
		if i >= 0 && k >= 0 && plainCommonLength(s[i+1:], t[k+1:]) == left-1 {
			return string(letter) + plainCommon(s[i+1:], t[k+1:])
		}
	}
	return ""
}

// plainCommonLength leaves out what no edits keep, if to change a peak costs as much as to leave it out and put in another one.
func plainCommonLength(s, t string) int {
	return (len(s) + len(t) - plainRest(s, t, costs(1, 2)).distance) / 2
}

// plainCount counts rows by their first peaks: each may be taken where it comes first.
func plainCount(s string) int {
	counts := map[string]int{}
	var count func(s string) int
	count = func(s string) int {
		if n, ok := counts[s]; ok {
			return n
		}
		n := 1
		for _, letter := range alphabet {
			if i := strings.IndexRune(s, letter); i >= 0 {
				n += count(s[i+1:])
			}
		}
		counts[s] = n
		return n
	}
	return count(s)
}

// lists returns lists of one to eight prints.
func lists() [][]string {
	l := [][]string{{""}, {"a"}, {strings.Repeat("h", 20)}, {"abc", "ab", "b", "ab"}, {"ab", "ab", "ab", "ab", "ab", "ab", "ab", "ab"}, {"", "a", "aa", "aaa", "aaaa", "aaaaa", "aaaaaa", "aaaaaaa"}, {"b", "a", "a", "b"}, {"abcd", "acbd", "abdc", "bacd"}}
	for n := 1; n <= api.MaxPrints; n++ {
		for seed := range 6 {
			l = append(l, drawn(uint64(100*n+seed), n, []int{2, 4, api.MaxPrint}[seed%3]))
		}
	}
	return append(l, long()[:8])
}

// badPrints are no prints.
func badPrints() []string {
	l := []string{strings.Repeat("a", 21), strings.Repeat("abcdefg", 3), strings.Repeat("h", 100000)}
	for _, bad := range []string{"i", "`", "A", "H", "z", " ", "0", "\x00", "\xff", "é", "\x81", "\n"} {
		l = append(l, bad, bad+"ab", "a"+bad+"b", "ab"+bad, strings.Repeat("a", 19)+bad)
	}
	return l
}

// badLists are no prints that are compared.
func badLists() [][]string {
	l := [][]string{nil, {}, make([]string, 9), make([]string, 100000)}
	for _, bad := range badPrints() {
		l = append(l, []string{bad}, []string{bad, "a"}, []string{"a", bad, "b"}, append(slices.Repeat([]string{"ab"}, 7), bad))
	}
	return l
}

func badCosts() []api.Costs {
	l := []api.Costs{{}, costs(0, 0), costs(10, 10)}
	for _, bad := range []int{0, -1, 10, 11, -9, 1 << 62, -1 << 63, 1<<63 - 1} {
		l = append(l, costs(bad, 1), costs(1, bad), costs(bad, 9), costs(9, bad))
	}
	return l
}

// badNumbers are not from 0 to 1000.
func badNumbers() []int {
	return []int{-1, 1001, -1000, 1 << 62, -1 << 63, 1<<63 - 1}
}

// badEdits are lists with something that is no edit, or with edits that keep or change what they must not, that end too early or that go on too long.
func badEdits(s, t string) [][]int {
	good := plainRest(s, t, costs(1, 1)).edits
	l := [][]int{append(slices.Clone(good), api.EditKeep), append(slices.Clone(good), api.EditChange), append(slices.Clone(good), api.EditLeave), append(slices.Clone(good), api.EditPut), append(slices.Clone(good), 0), make([]int, 100), make([]int, 101), slices.Repeat([]int{api.EditLeave}, 100), slices.Repeat([]int{api.EditPut}, 100000)}
	if len(good) > 0 {
		l = append(l, nil, good[:len(good)-1], good[1:])
	}
	for i, edit := range good {
		// 3 less Keep is Change, and the other way round.
		for _, bad := range []int{0, 5, -1, 3 - edit, 1 << 62, -1 << 63, 1<<63 - 1} {
			spoiled := slices.Clone(good)
			spoiled[i] = bad
			l = append(l, spoiled)
		}
	}
	return l
}

// copied returns a table with its own rows.
func copied(far [][]int) [][]int {
	var l [][]int
	for _, row := range far {
		l = append(l, slices.Clone(row))
	}
	return l
}

// badFar are tables that have not the rows of far numbers, or a number out of range.
func badFar(s, t string) [][][]int {
	good := plainFar(s, t, costs(1, 1))
	l := [][][]int{nil, {}, good[1:], append(copied(good), good[0]), make([][]int, len(good)), make([][]int, 100000)}
	for _, i := range []int{0, len(s) / 2, len(s)} {
		for _, row := range [][]int{nil, good[i][1:], append(slices.Clone(good[i]), 0), make([]int, 100000)} {
			spoiled := copied(good)
			spoiled[i] = row
			l = append(l, spoiled)
		}
		for _, k := range []int{0, len(t) / 2, len(t)} {
			for _, bad := range badNumbers() {
				spoiled := copied(good)
				spoiled[i][k] = bad
				l = append(l, spoiled)
			}
		}
	}
	return l
}
