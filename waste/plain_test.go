package waste_test

import (
	"math/rand/v2"
	"reflect"
	"slices"
	"testing"

	"skimmer/api"
)

// This file has what the other tests share: kinds, and the chapter's terms told word by word, to compare with.

// check compares a result and its error with those wanted.
func check[R any](t *testing.T, name string, got R, err api.Errno, want R, wantErr api.Errno) {
	t.Helper()
	if err != wantErr || !reflect.DeepEqual(got, want) {
		t.Errorf("%s: %v, error %d, want %v, error %d", name, got, err, want, wantErr)
	}
}

// checkList is check for lists, where nil and empty are the same.
func checkList[R comparable](t *testing.T, name string, got []R, err api.Errno, want []R, wantErr api.Errno) {
	t.Helper()
	if err != wantErr || !slices.Equal(got, want) {
		t.Errorf("%s: %v, error %d, want %v, error %d", name, got, err, want, wantErr)
	}
}

// checkKinds is check for kinds, where no pairs may be nil or empty.
func checkKinds(t *testing.T, name string, got api.Kinds, err api.Errno, want api.Kinds, wantErr api.Errno) {
	t.Helper()
	if err != wantErr || got.N != want.N || !slices.Equal(got.Clash, want.Clash) {
		t.Errorf("%s: %v, error %d, want %v, error %d", name, got, err, want, wantErr)
	}
}

// must returns a result that has no error.
func must[R any](t *testing.T, name string) func(got R, err api.Errno) R {
	return func(got R, err api.Errno) R {
		t.Helper()
		if err != api.OK {
			t.Fatalf("%s: error %d", name, err)
		}
		return got
	}
}

// kinds returns so many kinds: the two of each pair in turn.
func kinds(n int, l ...int) api.Kinds {
	k := api.Kinds{N: n}
	for i := 0; i < len(l); i += 2 {
		k.Clash = append(k.Clash, [2]int{l[i], l[i+1]})
	}
	return k
}

// pairsOf returns all pairs of so many kinds, in ascending order.
func pairsOf(n int) [][2]int {
	var l [][2]int
	for a := range n {
		for b := a + 1; b < n; b++ {
			l = append(l, [2]int{a, b})
		}
	}
	return l
}

// full returns kinds that all clash.
func full(n int) api.Kinds {
	return api.Kinds{N: n, Clash: pairsOf(n)}
}

// ring returns kinds each of which clashes with the next one, and the last with the first.
func ring(n int) api.Kinds {
	k := kinds(n, 0, n-1)
	for i := range n - 1 {
		k.Clash = append(k.Clash, [2]int{i, i + 1})
	}
	return k
}

// sides returns kinds of two sides, where those of one side clash with those of the other.
func sides(n, m int) api.Kinds {
	k := api.Kinds{N: n + m}
	for b := range m {
		for a := range n {
			k.Clash = append(k.Clash, [2]int{a, n + b})
		}
	}
	return k
}

// crown returns kinds that want two skips, but four if they are put in the order 0, 4, 1, 5, ..: each of 0 to 3 clashes with all of 4 to 7 but the one that is 4 above it.
func crown() api.Kinds {
	return kinds(8, 0, 5, 0, 6, 0, 7, 1, 4, 1, 6, 1, 7, 2, 4, 2, 5, 2, 7, 3, 4, 3, 5, 3, 6)
}

// special returns kinds that the document names, and others of some form.
func special() []api.Kinds {
	l := []api.Kinds{
		ring(3), ring(4), ring(5), ring(7), ring(8), sides(1, 7), sides(7, 1), sides(2, 3), sides(4, 4),
		kinds(3, 1, 2, 0, 1), kinds(4, 2, 3, 0, 1, 1, 2, 0, 3), kinds(8, 6, 7, 0, 1, 4, 5, 2, 3), kinds(8, 0, 7),
		// Several parts, whose kinds lie between each other, and some of one kind.
		kinds(6, 0, 3, 2, 5, 1, 4), kinds(7, 1, 6, 3, 5, 1, 3), kinds(8, 5, 7, 1, 3, 1, 7, 0, 6, 2, 4), kinds(8, 2, 7, 3, 6, 2, 3, 6, 7, 4, 5), kinds(5, 3, 4), kinds(5, 0, 1),
		crown(), kinds(4, 0, 2, 2, 3, 1, 3),
		// Two longest lists.
		kinds(6, 0, 1, 0, 2, 1, 2, 3, 4, 3, 5, 4, 5), kinds(6, 3, 5, 4, 5, 3, 4, 1, 2, 0, 1), kinds(5, 0, 4, 1, 2, 1, 3, 2, 3),
		// A ring of five around another kind, and one kind that clashes with none.
		kinds(7, 0, 1, 1, 2, 2, 3, 3, 4, 0, 4, 0, 5, 1, 5, 2, 5, 3, 5, 4, 5),
	}
	for n := 1; n <= api.MaxKinds; n++ {
		l = append(l, kinds(n), full(n))
	}
	return l
}

// shuffled returns kinds with so many of all pairs that are drawn, in any order.
func shuffled(source *rand.Rand, n, pairs int) api.Kinds {
	all := pairsOf(n)
	source.Shuffle(len(all), func(i, j int) { all[i], all[j] = all[j], all[i] })
	return api.Kinds{N: n, Clash: all[:pairs:pairs]}
}

// some returns so many kinds that are drawn, with N from least to most.
func some(seed uint64, lists, least, most int) []api.Kinds {
	source := rand.New(rand.NewPCG(7, seed))
	var l []api.Kinds
	for range lists {
		n := least + source.IntN(most-least+1)
		l = append(l, shuffled(source, n, source.IntN(n*(n-1)/2+1)))
	}
	return l
}

// small returns all kinds with N up to 4, in any order of their pairs.
func small() []api.Kinds {
	source := rand.New(rand.NewPCG(7, 0))
	var l []api.Kinds
	for n := 1; n <= 4; n++ {
		pairs := pairsOf(n)
		for set := range 1 << len(pairs) {
			k := api.Kinds{N: n}
			for i, pair := range pairs {
				if set>>i&1 == 1 {
					k.Clash = append(k.Clash, pair)
				}
			}
			source.Shuffle(len(k.Clash), func(i, j int) { k.Clash[i], k.Clash[j] = k.Clash[j], k.Clash[i] })
			l = append(l, k)
		}
	}
	return l
}

// all returns kinds of all forms.
func all() []api.Kinds {
	return slices.Concat(small(), special(), some(1, 60, 5, 6), some(2, 60, 7, 8))
}

func plainClash(k api.Kinds, a, b int) bool {
	return slices.Contains(k.Clash, [2]int{a, b}) || slices.Contains(k.Clash, [2]int{b, a})
}

func plainRight(k api.Kinds, fill []int) bool {
	for _, pair := range k.Clash {
		if fill[pair[0]] == fill[pair[1]] {
			return false
		}
	}
	return true
}

// plainFillings returns all fillings, right or not, in ascending order.
func plainFillings(n, skips int) [][]int {
	l := [][]int{nil}
	for range n {
		var longer [][]int
		for _, fill := range l {
			for skip := range skips {
				longer = append(longer, append(slices.Clone(fill), skip))
			}
		}
		l = longer
	}
	return l
}

// members returns the kinds of a set, ascending.
func members(n, set int) []int {
	var l []int
	for kind := range n {
		if set>>kind&1 == 1 {
			l = append(l, kind)
		}
	}
	return l
}

// anyTwo reports whether any two kinds of a list clash, or whether no two do.
func anyTwo(k api.Kinds, l []int, clash bool) bool {
	for i, a := range l {
		for _, b := range l[i+1:] {
			if plainClash(k, a, b) != clash {
				return false
			}
		}
	}
	return true
}

// plainCounts returns how many right fillings there are with each number of skips from 0 on: the last skip has some kinds that do not clash, the others have the rest.
func plainCounts(k api.Kinds, most int) []int {
	sets := 1 << k.N
	apart := make([]bool, sets)
	for set := range sets {
		apart[set] = anyTwo(k, members(k.N, set), false)
	}
	ways := make([]int, sets)
	ways[0] = 1
	counts := []int{ways[sets-1]}
	for range most {
		next := make([]int, sets)
		for set := range sets {
			for last := set; ; last = (last - 1) & set {
				if apart[last] {
					next[set] += ways[set&^last]
				}
				if last == 0 {
					break
				}
			}
		}
		ways = next
		counts = append(counts, ways[sets-1])
	}
	return counts
}

// plainBack returns the values at -1, -2, .. of a polynomial of degree n from those at 0, 1, .. on: its differences of degree n + 1 are 0.
func plainBack(counts []int, n, most int) []int {
	values := slices.Clone(counts)
	var back []int
	for range most {
		choices, value := 1, 0
		for i := 1; i <= n+1; i++ {
			choices = choices * (n + 2 - i) / i
			if i%2 == 1 {
				value += choices * values[i-1]
			} else {
				value -= choices * values[i-1]
			}
		}
		back = append(back, value)
		values = slices.Insert(values, 0, value)
	}
	return back
}

func plainValue(poly []int, k int) int {
	sum, power := 0, 1
	for _, number := range poly {
		sum += number * power
		power *= k
	}
	return sum
}

// plainFewest is the first number of skips with right fillings.
func plainFewest(k api.Kinds) int {
	return slices.IndexFunc(plainCounts(k, k.N), func(n int) bool { return n > 0 })
}

// plainFirst tries the skips of kind after kind in ascending order.
func plainFirst(k api.Kinds, skips int) []int {
	var try func(fill []int) []int
	try = func(fill []int) []int {
		if len(fill) == k.N {
			return fill
		}
		for skip := range skips {
			longer := append(slices.Clone(fill), skip)
			if !plainRight(among(k, len(longer)), longer) {
				continue
			}
			if found := try(longer); found != nil {
				return found
			}
		}
		return nil
	}
	return try(nil)
}

// among returns the pairs among the first kinds.
func among(k api.Kinds, n int) api.Kinds {
	few := api.Kinds{N: n}
	for _, pair := range k.Clash {
		if pair[1] < n {
			few.Clash = append(few.Clash, pair)
		}
	}
	return few
}

// plainLine tries skips from 0 on for each kind.
func plainLine(k api.Kinds, order []int) []int {
	fill := slices.Repeat([]int{-1}, k.N)
	for _, kind := range order {
		for skip := 0; fill[kind] < 0; skip++ {
			free := true
			for other, at := range fill {
				free = free && !(at == skip && plainClash(k, kind, other))
			}
			if free {
				fill[kind] = skip
			}
		}
	}
	return fill
}

// plainLongest looks at all lists.
func plainLongest(k api.Kinds, clash bool) []int {
	var longest []int
	for set := range 1 << k.N {
		l := members(k.N, set)
		if !anyTwo(k, l, clash) {
			continue
		}
		if len(l) > len(longest) || len(l) == len(longest) && slices.Compare(l, longest) < 0 {
			longest = l
		}
	}
	return longest
}

func plainWithout(k api.Kinds, pair int) api.Kinds {
	rest := api.Kinds{N: k.N}
	for i, other := range k.Clash {
		if i != pair {
			rest.Clash = append(rest.Clash, other)
		}
	}
	return rest
}

// plainJoined asks for each two kinds of the result whether any of those they come from clash.
func plainJoined(k api.Kinds, pair int) api.Kinds {
	from := make([][]int, k.N)
	for kind := range k.N {
		from[kind] = []int{kind}
	}
	a, b := k.Clash[pair][0], k.Clash[pair][1]
	from[a] = []int{a, b}
	from = slices.Delete(from, b, b+1)
	joined := api.Kinds{N: k.N - 1}
	for _, two := range pairsOf(k.N - 1) {
		clash := false
		for _, c := range from[two[0]] {
			for _, d := range from[two[1]] {
				clash = clash || plainClash(k, c, d)
			}
		}
		if clash {
			joined.Clash = append(joined.Clash, two)
		}
	}
	return joined
}

func plainOther(k api.Kinds) api.Kinds {
	other := api.Kinds{N: k.N}
	for _, pair := range pairsOf(k.N) {
		if !slices.Contains(k.Clash, pair) {
			other.Clash = append(other.Clash, pair)
		}
	}
	return other
}

// plainParts gives each kind the least kind it hangs together with, and numbers these.
func plainParts(k api.Kinds) []int {
	least := make([]int, k.N)
	for kind := range least {
		least[kind] = kind
	}
	for range k.N {
		for _, pair := range k.Clash {
			both := min(least[pair[0]], least[pair[1]])
			least[pair[0]], least[pair[1]] = both, both
		}
	}
	heads := slices.Compact(slices.Sorted(slices.Values(least)))
	parts := make([]int, k.N)
	for kind, head := range least {
		parts[kind] = slices.Index(heads, head)
	}
	return parts
}

// plainIsLoading looks for kinds that are before themselves by way of others.
func plainIsLoading(k api.Kinds, before []bool) bool {
	var is [api.MaxKinds][api.MaxKinds]bool
	for i, pair := range k.Clash {
		if before[i] {
			is[pair[0]][pair[1]] = true
		} else {
			is[pair[1]][pair[0]] = true
		}
	}
	for by := range k.N {
		for a := range k.N {
			for b := range k.N {
				is[a][b] = is[a][b] || is[a][by] && is[by][b]
			}
		}
	}
	for kind := range k.N {
		if is[kind][kind] {
			return false
		}
	}
	return true
}

// orders returns all orders of so many kinds.
func orders(n int) [][]int {
	if n == 0 {
		return [][]int{nil}
	}
	var l [][]int
	for _, order := range orders(n - 1) {
		for at := range n {
			l = append(l, slices.Insert(slices.Clone(order), at, n-1))
		}
	}
	return l
}

// plainLoadings collects the orders of loading that come about if the kinds are loaded one after the other.
func plainLoadings(k api.Kinds, orders [][]int) int {
	found := map[int]bool{}
	at := make([]int, k.N)
	for _, order := range orders {
		for i, kind := range order {
			at[kind] = i
		}
		loading := 0
		for i, pair := range k.Clash {
			if at[pair[0]] < at[pair[1]] {
				loading |= 1 << i
			}
		}
		found[loading] = true
	}
	return len(found)
}

// lists returns all orders of loading of so many pairs, right or not.
func lists(pairs int) [][]bool {
	var l [][]bool
	for set := range 1 << pairs {
		before := make([]bool, pairs)
		for i := range before {
			before[i] = set>>i&1 == 1
		}
		l = append(l, before)
	}
	return l
}

// drawn returns orders, fillings or whatever lists of numbers below a number.
func drawn(source *rand.Rand, lists, n, below int) [][]int {
	var l [][]int
	for range lists {
		list := make([]int, n)
		for i := range list {
			list[i] = source.IntN(below)
		}
		l = append(l, list)
	}
	return l
}

// badKinds are not valid.
func badKinds() []api.Kinds {
	l := []api.Kinds{{}, {N: -1}, {N: 9}, {N: 1 << 62}, {N: -1 << 63}, {N: 0, Clash: [][2]int{{0, 0}}}, {N: 0, Clash: [][2]int{{0, 1}}}, full(9), {N: 1 << 62, Clash: [][2]int{{0, 1}}}}
	l = append(l, kinds(1, 0, 0), kinds(1, 0, 1), kinds(3, 0, 1, 1, 2, 0, 1), kinds(3, 0, 1, 0, 1), kinds(3, 1, 2, 0, 1, 1, 2, 0, 2))
	l = append(l, api.Kinds{N: 8, Clash: append(pairsOf(8), [2]int{6, 7})}, api.Kinds{N: 8, Clash: make([][2]int, 100000)}, api.Kinds{N: 8, Clash: slices.Repeat([][2]int{{0, 1}}, 100000)})
	for _, bad := range [][2]int{{1, 0}, {2, 1}, {0, 0}, {2, 2}, {-1, 0}, {-1, 2}, {-2, -1}, {0, 3}, {2, 3}, {3, 3}, {3, 4}, {0, 1 << 62}, {-1 << 63, 1}, {-1 << 63, 1<<63 - 1}} {
		l = append(l, api.Kinds{N: 3, Clash: [][2]int{bad}}, api.Kinds{N: 3, Clash: [][2]int{{0, 1}, bad, {0, 2}}})
	}
	return l
}

// badFills are no fillings of so many kinds.
func badFills(n int) [][]int {
	l := [][]int{nil, {}, make([]int, n-1), make([]int, n+1), make([]int, 100000)}
	for at := range n {
		for _, bad := range []int{-1, -1000, 1001, 1002, 1 << 62, -1 << 63} {
			fill := make([]int, n)
			for kind := range fill {
				fill[kind] = kind
			}
			fill[at] = bad
			l = append(l, fill)
		}
	}
	return l
}

// badOrders have not each of so many kinds once.
func badOrders(n int) [][]int {
	first := make([]int, n)
	for i := range first {
		first[i] = i
	}
	l := [][]int{nil, {}, first[1:], first[:n-1], append(slices.Clone(first), 0), append(slices.Clone(first), n), append([]int{n - 1}, first...), make([]int, 100000)}
	for at := range n {
		bads := []int{-1, n, n + 1, 1 << 62, -1 << 63}
		if n > 1 {
			bads = append(bads, (at+1)%n)
		}
		for _, bad := range bads {
			order := slices.Clone(first)
			order[at] = bad
			l = append(l, order)
		}
	}
	return l
}

// badPlaces are no indices of a list with so many elements.
func badPlaces(n int) []int {
	return []int{-1, -2, n, n + 1, -1 << 63, 1 << 62}
}
