package fund_test

import (
	"math/big"
	"math/rand/v2"
	"reflect"
	"slices"
	"testing"

	"skimmer/api"
)

// This file has what the other tests share: claims, and the chapter's terms told word by word, to compare with.

const (
	inProportion = 1
	equalAwards  = 2
	equalLosses  = 3
	oldRule      = 4
)

// check compares a result and its error with those wanted.
func check[R any](t *testing.T, name string, got R, err api.Errno, want R, wantErr api.Errno) {
	t.Helper()
	if err != wantErr || !reflect.DeepEqual(got, want) {
		t.Errorf("%s: %v, error %d, want %v, error %d", name, got, err, want, wantErr)
	}
}

// checkList is check for lists, where nil and empty are the same.
func checkList[R comparable](t *testing.T, name string, got []R, err api.Errno, want []R, wantErr api.Errno) {
	t.Helper()
	if err != wantErr || !slices.Equal(got, want) {
		t.Errorf("%s: %v, error %d, want %v, error %d", name, got, err, want, wantErr)
	}
}

// must returns a result that has no error.
func must[R any](t *testing.T, name string) func(got R, err api.Errno) R {
	return func(got R, err api.Errno) R {
		t.Helper()
		if err != api.OK {
			t.Fatalf("%s: error %d", name, err)
		}
		return got
	}
}

// ratios returns ratios: the N and the D of each in turn.
func ratios(l ...int) []api.Ratio {
	var out []api.Ratio
	for i := 0; i < len(l); i += 2 {
		out = append(out, api.Ratio{N: l[i], D: l[i+1]})
	}
	return out
}

func whole(n int) api.Ratio { return api.Ratio{N: n, D: 1} }

func rat(r api.Ratio) *big.Rat { return big.NewRat(int64(r.N), int64(r.D)) }

func ratOf(n int) *big.Rat { return big.NewRat(int64(n), 1) }

func sumOf(c []int) int {
	sum := 0
	for _, claim := range c {
		sum += claim
	}
	return sum
}

// lowest returns a number as a ratio in lowest terms.
func lowest(r *big.Rat) api.Ratio {
	return api.Ratio{N: int(r.Num().Int64()), D: int(r.Denom().Int64())}
}

func lowestOf(l []*big.Rat) []api.Ratio {
	var out []api.Ratio
	for _, r := range l {
		out = append(out, lowest(r))
	}
	return out
}

func plus(a, b *big.Rat) *big.Rat  { return new(big.Rat).Add(a, b) }
func minus(a, b *big.Rat) *big.Rat { return new(big.Rat).Sub(a, b) }
func times(a, b *big.Rat) *big.Rat { return new(big.Rat).Mul(a, b) }

func lesser(a, b *big.Rat) *big.Rat {
	if a.Cmp(b) < 0 {
		return a
	}
	return b
}

func greater(a, b *big.Rat) *big.Rat {
	if a.Cmp(b) > 0 {
		return a
	}
	return b
}

func total(l []*big.Rat) *big.Rat {
	sum := new(big.Rat)
	for _, r := range l {
		sum = plus(sum, r)
	}
	return sum
}

// each returns what becomes of each number.
func each(l []*big.Rat, of func(*big.Rat) *big.Rat) []*big.Rat {
	var out []*big.Rat
	for _, r := range l {
		out = append(out, of(r))
	}
	return out
}

// levelled looks for a level with which the awards add up to the estate: their sum goes straight from each claim to the next greater one.
func levelled(c []*big.Rat, estate *big.Rat, award func(claim, level *big.Rat) *big.Rat) []*big.Rat {
	at := func(level *big.Rat) []*big.Rat {
		return each(c, func(claim *big.Rat) *big.Rat { return award(claim, level) })
	}
	levels := append([]*big.Rat{new(big.Rat)}, c...)
	slices.SortFunc(levels, (*big.Rat).Cmp)
	for i, level := range levels {
		here := total(at(level))
		if here.Cmp(estate) == 0 {
			return at(level)
		}
		if i+1 == len(levels) {
			break
		}
		next := total(at(levels[i+1]))
		if (here.Cmp(estate) < 0) == (estate.Cmp(next) < 0) {
			part := new(big.Rat).Quo(minus(estate, here), minus(next, here))
			return at(plus(level, times(part, minus(levels[i+1], level))))
		}
	}
	panic("no level")
}

func plainEqualAwards(c []*big.Rat, estate *big.Rat) []*big.Rat {
	return levelled(c, estate, lesser)
}

func plainEqualLosses(c []*big.Rat, estate *big.Rat) []*big.Rat {
	return levelled(c, estate, func(claim, level *big.Rat) *big.Rat { return greater(new(big.Rat), minus(claim, level)) })
}

func plainOldRule(c []*big.Rat, estate *big.Rat) []*big.Rat {
	half := func(r *big.Rat) *big.Rat { return times(r, big.NewRat(1, 2)) }
	halves := each(c, half)
	if estate.Cmp(half(total(c))) <= 0 {
		return plainEqualAwards(halves, estate)
	}
	losses := plainEqualAwards(halves, minus(total(c), estate))
	var awards []*big.Rat
	for i, claim := range c {
		awards = append(awards, minus(claim, losses[i]))
	}
	return awards
}

// plainAwards returns the awards by a rule.
func plainAwards(c []int, estate, rule int) []*big.Rat {
	var l []*big.Rat
	for _, claim := range c {
		l = append(l, ratOf(claim))
	}
	e := ratOf(estate)
	switch rule {
	case equalAwards:
		return plainEqualAwards(l, e)
	case equalLosses:
		return plainEqualLosses(l, e)
	case oldRule:
		return plainOldRule(l, e)
	}
	return each(l, func(claim *big.Rat) *big.Rat {
		if sumOf(c) == 0 {
			return new(big.Rat)
		}
		return times(claim, big.NewRat(int64(estate), int64(sumOf(c))))
	})
}

// plainShare returns the awards by a rule as they are to be returned.
func plainShare(c []int, estate, rule int) []api.Ratio {
	return lowestOf(plainAwards(c, estate, rule))
}

func plainShares(c []int, estate int, awards []api.Ratio) bool {
	sum := new(big.Rat)
	for i, award := range awards {
		if rat(award).Sign() < 0 || rat(award).Cmp(ratOf(c[i])) > 0 {
			return false
		}
		sum = plus(sum, rat(award))
	}
	return sum.Cmp(ratOf(estate)) == 0
}

// plainGarment lets each concede, and halves the rest.
func plainGarment(a, b int, estate *big.Rat) (x, y *big.Rat) {
	toB, toA := greater(new(big.Rat), minus(estate, ratOf(a))), greater(new(big.Rat), minus(estate, ratOf(b)))
	half := times(minus(minus(estate, toA), toB), big.NewRat(1, 2))
	return plus(toA, half), plus(toB, half)
}

func plainAgrees(c []int, estate int, awards []api.Ratio) bool {
	if !plainShares(c, estate, awards) {
		return false
	}
	for i := range c {
		for j := range c {
			if i == j {
				continue
			}
			x, y := plainGarment(c[i], c[j], plus(rat(awards[i]), rat(awards[j])))
			if x.Cmp(rat(awards[i])) != 0 || y.Cmp(rat(awards[j])) != 0 {
				return false
			}
		}
	}
	return true
}

func plainLeast(awards []*big.Rat) int {
	for i, award := range awards {
		if !slices.ContainsFunc(awards, func(other *big.Rat) bool { return other.Cmp(award) < 0 }) {
			return i
		}
	}
	panic("no least award")
}

// plainWhole gives what is left one by one, each time to the first one of those with the greatest rest.
func plainWhole(awards []*big.Rat, estate int) []int {
	var rounded []int
	var rests []*big.Rat
	for _, award := range awards {
		down := int(new(big.Int).Div(award.Num(), award.Denom()).Int64())
		rounded = append(rounded, down)
		rests = append(rests, minus(award, ratOf(down)))
	}
	for sumOf(rounded) < estate {
		most := 0
		for i, rest := range rests {
			if rest.Cmp(rests[most]) > 0 {
				most = i
			}
		}
		rounded[most]++
		rests[most] = ratOf(-1)
	}
	return rounded
}

func plainTurn(c, order []int, estate int) []int {
	got := make([]int, len(c))
	for _, i := range order {
		got[i] = min(c[i], estate-sumOf(got))
	}
	return got
}

// orders returns all orders of so many claimants.
func orders(n int) [][]int {
	if n == 0 {
		return [][]int{nil}
	}
	var out [][]int
	for _, order := range orders(n - 1) {
		for at := range n {
			out = append(out, slices.Insert(slices.Clone(order), at, n-1))
		}
	}
	return out
}

// mean returns the means of what the claimants get over all orders.
func mean(n int, turn func(order []int) []int) []api.Ratio {
	sum := make([]int, n)
	all := orders(n)
	for _, order := range all {
		for i, got := range turn(order) {
			sum[i] += got
		}
	}
	var means []api.Ratio
	for _, s := range sum {
		means = append(means, lowest(big.NewRat(int64(s), int64(len(all)))))
	}
	return means
}

// shifted returns the awards over a common denominator, with so many parts moved from one claimant to another one. 720720 is divided by all numbers up to 16, and so by all D of awards by the rules 2 to 4.
func shifted(awards []api.Ratio, from, to, parts int) []api.Ratio {
	const d = 720720
	var out []api.Ratio
	for _, award := range awards {
		out = append(out, api.Ratio{N: award.N * (d / award.D), D: d})
	}
	out[from].N -= parts
	out[to].N += parts
	return out
}

// special returns claims that the document names, and others of some form.
func special() [][]int {
	l := [][]int{
		{0}, {1}, {7}, {1000}, {0, 0}, {0, 1}, {1000, 0}, {1000, 1000}, {100, 50}, {50, 100}, {999, 1000}, {1, 2}, {3, 4}, {7, 7},
		{100, 200, 300}, {300, 200, 100}, {200, 300, 100}, {300, 200, 200}, {5, 3, 5}, {4, 0, 0}, {0, 5, 0}, {1, 1, 1}, {1, 1, 1000},
		{2, 3, 5, 7}, {7, 5, 3, 2}, {10, 10, 20, 20}, {1, 10, 100, 1000}, {999, 1000, 998, 997, 996},
		{1, 2, 3, 4, 5, 6, 7}, {7, 6, 5, 4, 3, 2, 1}, {13, 13, 13, 13, 13, 13, 13}, {1000, 0, 1, 0, 999, 500, 2},
		{1, 2, 3, 4, 5, 6, 7, 8}, {8, 7, 6, 5, 4, 3, 2, 1}, {1, 2, 4, 8, 16, 32, 64, 128}, {0, 0, 0, 1000, 0, 0, 0, 1}, {997, 991, 983, 977, 971, 967, 953, 947},
	}
	for n := 3; n <= api.MaxClaims; n++ {
		l = append(l, make([]int, n), slices.Repeat([]int{1000}, n), slices.Repeat([]int{1}, n))
	}
	return l
}

// small returns all lists of up to three claims from 0 to 3.
func small() [][]int {
	l := [][]int{}
	for a := range 4 {
		l = append(l, []int{a})
		for b := range 4 {
			l = append(l, []int{a, b})
			for c := range 4 {
				l = append(l, []int{a, b, c})
			}
		}
	}
	return l
}

// drawn returns so many lists of claims, some of them with small or equal claims.
func drawn(seed uint64, lists, most int) [][]int {
	source := rand.New(rand.NewPCG(8, seed))
	var l [][]int
	for range lists {
		below := []int{3, 12, 100, 1001, 1001}[source.IntN(5)]
		c := make([]int, 1+source.IntN(most))
		for i := range c {
			c[i] = source.IntN(below)
		}
		l = append(l, c)
	}
	return l
}

func all() [][]int {
	return slices.Concat(special(), small(), drawn(1, 60, api.MaxClaims))
}

// estates returns estates of claims: all if they are few, otherwise those that the document names, those at which some claim is met, and some others.
func estates(c []int) []int {
	sum := sumOf(c)
	l := []int{}
	if sum <= 12 {
		for estate := range sum + 1 {
			l = append(l, estate)
		}
		return l
	}
	source := rand.New(rand.NewPCG(8, uint64(sum)))
	l = append(l, 0, 1, 2, sum/2-1, sum/2, sum/2+1, sum/2+2, sum-2, sum-1, sum)
	for _, claim := range []int{slices.Min(c), slices.Max(c)} {
		for _, estate := range []int{claim, claim * len(c), claim * len(c) / 2, claim*len(c)/2 + 1} {
			l = append(l, min(estate, sum), max(sum-estate, 0))
		}
	}
	for range 4 {
		l = append(l, source.IntN(sum+1))
	}
	slices.Sort(l)
	return slices.Compact(l)
}

// badClaims are not valid.
func badClaims() [][]int {
	l := [][]int{nil, {}, make([]int, 9), make([]int, 100000), {1, 2, 3, 4, 5, 6, 7, 8, 9}}
	for _, bad := range []int{-1, 1001, -1000, 1 << 62, -1 << 63, 1<<63 - 1} {
		l = append(l, []int{bad}, []int{bad, 1, 1}, []int{5, bad, 5}, []int{1000, 1000, bad}, append(slices.Repeat([]int{1}, 7), bad))
	}
	return l
}

// badEstates are none of claims.
func badEstates(c []int) []int {
	return []int{-1, -1000, sumOf(c) + 1, sumOf(c) + 2, 8001, 1 << 62, -1 << 63, 1<<63 - 1}
}

func badRules() []int {
	return []int{0, 5, -1, 6, 1 << 62, -1 << 63, 1<<63 - 1}
}

func badClaimants(n int) []int {
	return []int{-1, n, n + 1, 8, 1 << 62, -1 << 63, 1<<63 - 1}
}

// badAwards are none for so many claims, whatever the estate.
func badAwards(n int) [][]api.Ratio {
	good := slices.Repeat(ratios(0, 1), n)
	l := [][]api.Ratio{good[:n-1], append(slices.Clone(good), whole(0)), slices.Repeat(good, 100000)[n+1:]}
	if n > 1 {
		l = append(l, nil, good[:1])
	}
	for _, bad := range ratios(0, 0, 1, 0, 0, -1, -1, -1, 1, 1000001, 0, 1000001, 0, -1000000, 1000000001, 1, -1000000001, 1, 1000000001, 1000000, 1<<62, 1, -1<<63, 1, 1<<63-1, 1, 0, 1<<62, 0, -1<<63) {
		for _, at := range []int{0, n - 1} {
			spoiled := slices.Clone(good)
			spoiled[at] = bad
			l = append(l, spoiled)
		}
	}
	return l
}

// badOrders have not each of so many claimants once.
func badOrders(n int) [][]int {
	good := orders(min(n, 3))[0]
	for i := len(good); i < n; i++ {
		good = append(good, i)
	}
	l := [][]int{nil, {}, good[:n-1], append(slices.Clone(good), n), append(slices.Clone(good), good[0]), append(slices.Clone(good), good...), make([]int, 100000)}
	for _, bad := range []int{-1, n, 1 << 62, -1 << 63, 1<<63 - 1} {
		for _, at := range []int{0, n - 1} {
			spoiled := slices.Clone(good)
			spoiled[at] = bad
			l = append(l, spoiled)
		}
	}
	if n > 1 {
		twice := slices.Clone(good)
		twice[0] = twice[n-1]
		l = append(l, twice, make([]int, n))
	}
	return l
}
