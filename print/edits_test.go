package print_test

import (
	"math/rand/v2"
	"slices"
	"strings"
	"testing"

	"skimmer/api"
	"skimmer/print"
)

// P9.3: of several cheapest edits the first ones.
func TestEdits(t *testing.T) {
	for _, c := range allCosts() {
		for _, p := range short() {
			l, err := print.Edits(p[0], p[1], c)
			checkList(t, "Edits", l, err, plainCheapest(p[0], p[1], c)[0], api.OK)
		}
		for _, p := range all() {
			l, err := print.Edits(p[0], p[1], c)
			checkList(t, "Edits", l, err, plainRest(p[0], p[1], c).edits, api.OK)
		}
	}
	const keep, change, leave, put = api.EditKeep, api.EditChange, api.EditLeave, api.EditPut
	a := strings.Repeat("a", 20)
	for _, x := range []struct {
		s, t        string
		put, change int
		want        []int
	}{
		{"abcd", "acbd", 1, 1, []int{keep, change, change, keep}}, {"abcd", "acbd", 1, 2, []int{keep, leave, keep, put, keep}}, {"abcd", "acbd", 1, 3, []int{keep, leave, keep, put, keep}},
		{"", "", 1, 1, nil}, {"a", "", 1, 1, []int{leave}}, {"", "a", 1, 1, []int{put}}, {"a", "a", 1, 1, []int{keep}}, {"a", "b", 1, 1, []int{change}}, {"a", "b", 1, 2, []int{change}}, {"a", "b", 1, 3, []int{leave, put}},
		{"aa", "a", 1, 1, []int{keep, leave}}, {"a", "aa", 1, 1, []int{keep, put}}, {"ab", "b", 1, 1, []int{leave, keep}}, {"b", "ab", 1, 1, []int{put, keep}}, {"ab", "c", 1, 2, []int{change, leave}}, {"ab", "cd", 1, 3, []int{leave, leave, put, put}},
		{a, a, 9, 9, slices.Repeat([]int{keep}, 20)}, {a, strings.Repeat("b", 20), 1, 3, slices.Concat(slices.Repeat([]int{leave}, 20), slices.Repeat([]int{put}, 20))}, {a, strings.Repeat("b", 20), 1, 2, slices.Repeat([]int{change}, 20)}, {"", a, 9, 1, slices.Repeat([]int{put}, 20)}, {a, "", 9, 1, slices.Repeat([]int{leave}, 20)},
	} {
		l, err := print.Edits(x.s, x.t, costs(x.put, x.change))
		checkList(t, "Edits", l, err, x.want, api.OK)
	}
}

// tellEdits checks what is told of a list, edits or not.
func tellEdits(t *testing.T, s, to string, l []int, are bool) {
	t.Helper()
	is, err := print.AreEdits(s, to, l)
	check(t, "AreEdits", is, err, are, api.OK)
	var undoing []int
	wantErr := api.ErrNone
	if are {
		wantErr = api.OK
		for _, edit := range l {
			undoing = append(undoing, []int{0, api.EditKeep, api.EditChange, api.EditPut, api.EditLeave}[edit])
		}
	}
	got, err := print.Back(s, to, l)
	checkList(t, "Back", got, err, undoing, wantErr)
	for _, c := range []api.Costs{costs(1, 1), costs(2, 7), costs(9, 4)} {
		want := 0
		if are {
			want = plainCost(l, c)
		}
		n, err := print.CostOf(s, to, l, c)
		check(t, "CostOf", n, err, want, wantErr)
	}
}

// P9.3: all edits are edits.
func TestAreEdits(t *testing.T) {
	for _, p := range short() {
		for _, l := range plainAll(p[0], p[1]) {
			tellEdits(t, p[0], p[1], l, true)
		}
	}
	for _, p := range all() {
		for _, l := range badEdits(p[0], p[1]) {
			tellEdits(t, p[0], p[1], l, false)
		}
	}
}

// P9.3: of all short lists those alone are edits.
func TestOtherEdits(t *testing.T) {
	var lists [][]int
	for n := range 5 {
		for code := range 1 << (2 * n) {
			var l []int
			for at := range n {
				l = append(l, 1+code>>(2*at)&3)
			}
			lists = append(lists, l)
		}
	}
	for _, p := range [][2]string{{"", ""}, {"a", "a"}, {"a", "b"}, {"ab", "b"}, {"ab", "ba"}, {"aa", "aaa"}, {"abc", ""}, {"", "ab"}, {"abca", "acba"}} {
		all := plainAll(p[0], p[1])
		for _, l := range lists {
			are := slices.ContainsFunc(all, func(edits []int) bool { return slices.Equal(edits, l) })
			tellEdits(t, p[0], p[1], l, are)
		}
	}
}

// P9.3: the longest edits, and lists of about 100 numbers.
func TestLongEdits(t *testing.T) {
	a := strings.Repeat("a", 20)
	longest := slices.Concat(slices.Repeat([]int{api.EditLeave}, 20), slices.Repeat([]int{api.EditPut}, 20))
	for _, s := range long()[:8] {
		tellEdits(t, s, a, longest, true)
		tellEdits(t, a, s, slices.Concat(longest[20:], longest[:20]), true)
		for _, n := range []int{41, 99, 100, 101, 1000} {
			for _, edit := range []int{api.EditKeep, api.EditChange, api.EditLeave, api.EditPut} {
				tellEdits(t, s, a, slices.Concat(longest, slices.Repeat([]int{edit}, n-40)), false)
			}
		}
	}
	for _, n := range []int{1, 100, 101} {
		for edit := range 6 {
			tellEdits(t, "", "", slices.Repeat([]int{edit}, n), false)
		}
	}
}

// P9.4.
func TestFar(t *testing.T) {
	for _, c := range allCosts() {
		for _, p := range all() {
			far, err := print.Far(p[0], p[1], c)
			check(t, "Far", far, err, plainFar(p[0], p[1], c), api.OK)
		}
	}
	a := strings.Repeat("a", 20)
	long, err := print.Far(a, "", costs(9, 1))
	check(t, "rows of Far", len(long), err, 21, api.OK)
	for i, row := range long {
		checkList(t, "a row of Far", row, api.OK, []int{9 * i}, api.OK)
	}
	for _, x := range []struct {
		s, t        string
		put, change int
		want        [][]int
	}{
		{"ab", "ba", 2, 3, [][]int{{0, 2, 4}, {2, 3, 2}, {4, 2, 4}}}, {"", "", 1, 1, [][]int{{0}}}, {"", "abc", 3, 1, [][]int{{0, 3, 6, 9}}}, {"abc", "", 3, 1, [][]int{{0}, {3}, {6}, {9}}}, {"a", "a", 9, 9, [][]int{{0, 9}, {9, 0}}}, {"a", "b", 9, 9, [][]int{{0, 9}, {9, 9}}}, {"a", "b", 1, 9, [][]int{{0, 1}, {1, 2}}}, {"a", "b", 1, 2, [][]int{{0, 1}, {1, 2}}},
		{"", a, 1, 9, [][]int{{0, 1, 2, 3, 4, 5, 6, 7, 8, 9, 10, 11, 12, 13, 14, 15, 16, 17, 18, 19, 20}}},
	} {
		far, err := print.Far(x.s, x.t, costs(x.put, x.change))
		check(t, "Far", far, err, x.want, api.OK)
	}
}

// P9.4: the greatest far numbers prove just the distance, and no number can be greater.
func TestProvesFar(t *testing.T) {
	for _, c := range allCosts()[:6] {
		for _, p := range short() {
			far := plainFar(p[0], p[1], c)
			distance := far[len(p[0])][len(p[1])]
			for _, n := range []int{0, 1, distance - 1, distance, distance + 1, 999, 1000} {
				if n >= 0 {
					is, err := print.Proves(p[0], p[1], far, c, n)
					check(t, "Proves", is, err, n <= distance, api.OK)
				}
			}
			for i, row := range far {
				for k := range row {
					more := copied(far)
					more[i][k]++
					is, err := print.Proves(p[0], p[1], more, c, 0)
					check(t, "Proves with more", is, err, false, api.OK)
				}
			}
		}
	}
}

// lower returns far numbers that are somewhat less than they can be, but for one of them now and then.
func lower(source *rand.Rand, s, t string, c api.Costs) [][]int {
	var far [][]int
	for i := range len(s) + 1 {
		far = append(far, nil)
		for k := range len(t) + 1 {
			bound := 1000
			if i > 0 {
				bound = min(bound, far[i-1][k]+c.Put)
			}
			if k > 0 {
				bound = min(bound, far[i][k-1]+c.Put)
			}
			if i > 0 && k > 0 && s[i-1] == t[k-1] {
				bound = min(bound, far[i-1][k-1])
			}
			if i > 0 && k > 0 && s[i-1] != t[k-1] {
				bound = min(bound, far[i-1][k-1]+c.Change)
			}
			if i == 0 && k == 0 {
				bound = 0
			}
			if source.IntN(3) == 0 {
				bound -= source.IntN(3)
			}
			if source.IntN(60) == 0 {
				bound++
			}
			far[i] = append(far[i], max(0, bound))
		}
	}
	return far
}

// P9.4, P9.9: other far numbers, that prove something or nothing, never more than the distance.
func TestProvesOther(t *testing.T) {
	source := rand.New(rand.NewPCG(9, 7))
	proved := map[bool]int{}
	for _, c := range allCosts() {
		for _, p := range all() {
			far := lower(source, p[0], p[1], c)
			distance := must[int](t, "Distance")(print.Distance(p[0], p[1], c))
			last := far[len(p[0])][len(p[1])]
			for _, n := range []int{0, last, last + 1, distance, distance + 1} {
				is, err := print.Proves(p[0], p[1], far, c, n)
				check(t, "Proves", is, err, plainProves(p[0], p[1], far, c, n), api.OK)
				check(t, "Proves more than the distance", is && n > distance, api.OK, false, api.OK)
				proved[is]++
			}
		}
	}
	if proved[true] < 1000 || proved[false] < 1000 {
		t.Errorf("far numbers that prove, and that do not: %v", proved)
	}
}

// P9.4: each rule by itself, with numbers that are just at their bounds or 1 beyond.
func TestProvesExamples(t *testing.T) {
	for _, x := range []struct {
		s, t        string
		far         [][]int
		put, change int
		n           int
		want        bool
	}{
		{"", "", [][]int{{0}}, 1, 1, 0, true}, {"", "", [][]int{{0}}, 1, 1, 1, false}, {"", "", [][]int{{1}}, 1, 1, 0, false}, {"", "", [][]int{{1000}}, 9, 9, 1000, false},
		{"a", "", [][]int{{0}, {9}}, 9, 1, 9, true}, {"a", "", [][]int{{0}, {9}}, 9, 1, 10, false}, {"a", "", [][]int{{0}, {10}}, 9, 1, 9, false}, {"a", "", [][]int{{1}, {9}}, 9, 1, 9, false}, {"a", "", [][]int{{0}, {8}}, 9, 1, 9, false}, {"a", "", [][]int{{0}, {0}}, 9, 1, 0, true},
		{"", "a", [][]int{{0, 9}}, 9, 1, 9, true}, {"", "a", [][]int{{0, 10}}, 9, 1, 9, false}, {"", "a", [][]int{{0, 1000}}, 9, 1, 1000, false}, {"", "a", [][]int{{0, 8}}, 9, 1, 8, true},
		{"a", "a", [][]int{{0, 5}, {5, 0}}, 5, 1, 0, true}, {"a", "a", [][]int{{0, 5}, {5, 1}}, 5, 1, 0, false}, {"a", "a", [][]int{{0, 0}, {0, 0}}, 5, 1, 0, true}, {"a", "a", [][]int{{0, 6}, {5, 0}}, 5, 1, 0, false}, {"a", "a", [][]int{{0, 5}, {6, 0}}, 5, 1, 0, false},
		{"a", "b", [][]int{{0, 5}, {5, 1}}, 5, 1, 1, true}, {"a", "b", [][]int{{0, 5}, {5, 2}}, 5, 1, 1, false}, {"a", "b", [][]int{{0, 1}, {1, 2}}, 1, 9, 2, true}, {"a", "b", [][]int{{0, 1}, {1, 3}}, 1, 9, 2, false}, {"a", "b", [][]int{{0, 0}, {1, 2}}, 1, 9, 2, false}, {"a", "b", [][]int{{0, 1}, {0, 2}}, 1, 9, 2, false}, {"a", "b", [][]int{{0, 0}, {0, 1}}, 1, 9, 1, true},
	} {
		is, err := print.Proves(x.s, x.t, x.far, costs(x.put, x.change), x.n)
		check(t, "Proves", is, err, x.want, api.OK)
	}
	// The rows are those of the first print.
	_, err := print.Proves("a", "", [][]int{{0, 1}}, costs(1, 1), 1)
	check(t, "Proves", err, api.OK, api.ErrArg, api.OK)
}
