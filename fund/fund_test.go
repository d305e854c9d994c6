package fund_test

import (
	"math/big"
	"math/rand/v2"
	"slices"
	"testing"

	"skimmer/api"
	"skimmer/fund"
)

// three returns the claims of the chapter's examples.
func three() []int { return []int{100, 200, 300} }

// P8.2.
func TestValid(t *testing.T) {
	for _, c := range all() {
		check(t, "Valid", fund.Valid(c), api.OK, true, api.OK)
	}
	for _, c := range badClaims() {
		if fund.Valid(c) {
			t.Errorf("Valid of %d claims", len(c))
		}
	}
	for n := range 12 {
		check(t, "Valid", fund.Valid(make([]int, n)), api.OK, n >= 1 && n <= 8, api.OK)
	}
	for claim := -2; claim <= 1002; claim++ {
		check(t, "Valid", fund.Valid([]int{0, claim}), api.OK, claim >= 0 && claim <= 1000, api.OK)
	}
}

// P8.2: every rule, as its term says.
func TestShare(t *testing.T) {
	for _, c := range all() {
		for _, estate := range estates(c) {
			for rule := inProportion; rule <= oldRule; rule++ {
				l, err := fund.Share(c, estate, rule)
				checkList(t, "Share", l, err, plainShare(c, estate, rule), api.OK)
			}
		}
	}
}

// P8.2: the chapter's examples, the edge cases that it names, and awards that are not whole.
func TestShareExamples(t *testing.T) {
	for _, x := range []struct {
		c            []int
		estate, rule int
		want         []api.Ratio
	}{
		{three(), 100, oldRule, ratios(100, 3, 100, 3, 100, 3)}, {three(), 200, oldRule, ratios(50, 1, 75, 1, 75, 1)}, {three(), 300, oldRule, ratios(50, 1, 100, 1, 150, 1)},
		{three(), 299, oldRule, ratios(50, 1, 100, 1, 149, 1)}, {three(), 301, oldRule, ratios(50, 1, 100, 1, 151, 1)}, {three(), 0, oldRule, ratios(0, 1, 0, 1, 0, 1)}, {three(), 600, oldRule, ratios(100, 1, 200, 1, 300, 1)},
		{three(), 400, oldRule, ratios(50, 1, 125, 1, 225, 1)}, {three(), 500, oldRule, ratios(200, 3, 500, 3, 800, 3)},
		{three(), 300, equalAwards, ratios(100, 1, 100, 1, 100, 1)}, {three(), 301, equalAwards, ratios(100, 1, 201, 2, 201, 2)}, {three(), 299, equalAwards, ratios(299, 3, 299, 3, 299, 3)}, {three(), 600, equalAwards, ratios(100, 1, 200, 1, 300, 1)}, {three(), 0, equalAwards, ratios(0, 1, 0, 1, 0, 1)},
		{three(), 300, equalLosses, ratios(0, 1, 100, 1, 200, 1)}, {three(), 301, equalLosses, ratios(1, 3, 301, 3, 601, 3)}, {three(), 299, equalLosses, ratios(0, 1, 199, 2, 399, 2)}, {three(), 600, equalLosses, ratios(100, 1, 200, 1, 300, 1)}, {three(), 0, equalLosses, ratios(0, 1, 0, 1, 0, 1)},
		{three(), 300, inProportion, ratios(50, 1, 100, 1, 150, 1)}, {three(), 600, inProportion, ratios(100, 1, 200, 1, 300, 1)}, {three(), 0, inProportion, ratios(0, 1, 0, 1, 0, 1)}, {[]int{3, 4}, 5, inProportion, ratios(15, 7, 20, 7)},
		{[]int{1, 2}, 1, oldRule, ratios(1, 2, 1, 2)}, {[]int{1, 2}, 2, oldRule, ratios(1, 2, 3, 2)}, {[]int{1, 3}, 1, oldRule, ratios(1, 2, 1, 2)},
		{[]int{1, 1, 1}, 1, oldRule, ratios(1, 3, 1, 3, 1, 3)}, {[]int{1, 1, 1}, 2, oldRule, ratios(2, 3, 2, 3, 2, 3)},
		{[]int{7}, 3, inProportion, ratios(3, 1)}, {[]int{7}, 3, equalAwards, ratios(3, 1)}, {[]int{7}, 3, equalLosses, ratios(3, 1)}, {[]int{7}, 3, oldRule, ratios(3, 1)}, {[]int{7}, 4, oldRule, ratios(4, 1)},
		{slices.Repeat([]int{1000}, 8), 7999, oldRule, slices.Repeat(ratios(7999, 8), 8)}, {slices.Repeat([]int{1000}, 8), 1, equalLosses, slices.Repeat(ratios(1, 8), 8)},
		{[]int{997, 991, 983, 977, 971, 967, 953, 947}, 7785, inProportion, ratios(7761645, 7786, 7714935, 7786, 7652655, 7786, 7605945, 7786, 7559235, 7786, 7528095, 7786, 7419105, 7786, 7372395, 7786)},
	} {
		l, err := fund.Share(x.c, x.estate, x.rule)
		checkList(t, "Share", l, err, x.want, api.OK)
	}
	for n := 1; n <= api.MaxClaims; n++ {
		for rule := inProportion; rule <= oldRule; rule++ {
			l, err := fund.Share(make([]int, n), 0, rule)
			checkList(t, "Share of claims of 0", l, err, slices.Repeat(ratios(0, 1), n), api.OK)
		}
	}
}

// P8.2: awards by rules, also not in lowest terms, and with parts moved or lost.
func TestShares(t *testing.T) {
	for _, c := range all() {
		for _, estate := range estates(c) {
			for rule := inProportion; rule <= oldRule; rule++ {
				awards := plainShare(c, estate, rule)
				checkShares(t, c, estate, awards, true)
				if estate > 0 {
					checkShares(t, c, estate-1, awards, false)
				}
				if estate < sumOf(c) {
					checkShares(t, c, estate+1, awards, false)
				}
				if rule == inProportion {
					continue
				}
				for _, parts := range []int{0, 1, -1, 720720, 1000} {
					moved := shifted(awards, 0, len(c)-1, parts)
					checkShares(t, c, estate, moved, plainShares(c, estate, moved))
				}
				lost := shifted(awards, 0, 0, 0)
				lost[len(c)-1].N--
				checkShares(t, c, estate, lost, false)
			}
		}
	}
}

func checkShares(t *testing.T, c []int, estate int, awards []api.Ratio, want bool) {
	t.Helper()
	is, err := fund.Shares(c, estate, awards)
	check(t, "Shares", is, err, want, api.OK)
}

// P8.2: each award is from 0 to its claim, also where all add up.
func TestSharesLimits(t *testing.T) {
	for _, x := range []struct {
		c      []int
		estate int
		awards []api.Ratio
		want   bool
	}{
		{[]int{10, 10}, 10, ratios(0, 1, 10, 1), true}, {[]int{10, 10}, 10, ratios(0, 1000000, 10000000, 1000000), true}, {[]int{10, 10}, 9, ratios(-1, 1, 10, 1), false}, {[]int{10, 10}, 9, ratios(10, 1, -1, 1), false},
		{[]int{10, 10}, 11, ratios(11, 1, 0, 1), false}, {[]int{10, 20}, 11, ratios(0, 1, 11, 1), true}, {[]int{20, 10}, 11, ratios(0, 1, 11, 1), false}, {[]int{10, 10}, 10, ratios(-1, 1000000, 10000001, 1000000), false},
		{[]int{10, 10}, 10, ratios(5, 1, 5, 1), true}, {[]int{10, 10}, 10, ratios(10, 2, 35, 7), true}, {[]int{10, 10}, 10, ratios(10, 3, 20, 3), true}, {[]int{10, 10}, 10, ratios(10, 3, 20, 4), false}, {[]int{10, 10}, 10, ratios(10, 3, 40, 6), true},
		{[]int{1000}, 1000, ratios(1000000000, 1000000), true}, {[]int{1000}, 1000, ratios(1000000000, 1), false}, {[]int{1000}, 1000, ratios(1000000000, 999999), false}, {[]int{1000}, 999, ratios(999999999, 1000000), false}, {[]int{1000}, 1000, ratios(999999999, 1000000), false}, {[]int{1000}, 0, ratios(-1000000000, 1), false}, {[]int{1000}, 0, ratios(-1000000000, 1000000), false},
		{[]int{0}, 0, ratios(0, 1), true}, {[]int{0}, 0, ratios(0, 999), true}, {[]int{0}, 0, ratios(1, 1000000), false}, {[]int{0}, 0, ratios(-1, 1000000), false}, {[]int{0, 0}, 0, ratios(1, 2, -1, 2), false}, {[]int{1, 1}, 0, ratios(0, 1, 0, 1), true}, {[]int{1, 1}, 0, ratios(1, 1, -1, 1), false}, {[]int{1, 1}, 0, ratios(1, 1, 0, 1), false},
		{slices.Repeat([]int{1000}, 8), 8000, slices.Repeat(ratios(1000000000, 1000000), 8), true}, {slices.Repeat([]int{1000}, 8), 8000, append(slices.Repeat(ratios(1000000000, 1000000), 7), api.Ratio{N: 999999999, D: 1000000}), false}, {slices.Repeat([]int{1000}, 8), 7999, slices.Repeat(ratios(999875000, 1000000), 8), true},
	} {
		checkShares(t, x.c, x.estate, x.awards, x.want)
	}
}

// primes returns the greatest prime numbers below 10^6.
func primes() []int {
	return []int{999983, 999979, 999961, 999959, 999953, 999931, 999917, 999907}
}

// product returns that of all primes.
func product() *big.Int {
	product := big.NewInt(1)
	for _, p := range primes() {
		product.Mul(product, big.NewInt(int64(p)))
	}
	return product
}

// near returns awards below 1 that add up to a whole number and so many parts of 1 divided by the product of all primes.
func near(parts *big.Int) []api.Ratio {
	var awards []api.Ratio
	for _, p := range primes() {
		d := big.NewInt(int64(p))
		n := new(big.Int).ModInverse(new(big.Int).Div(product(), d), d)
		n.Mod(n.Mul(n, parts), d)
		awards = append(awards, api.Ratio{N: int(n.Int64()), D: p})
	}
	return awards
}

// P8.2, R5: awards that miss the estate by so many parts, from next to nothing to more than what all digits of a short number hold, do not share it.
func TestSharesIsExact(t *testing.T) {
	c := slices.Repeat([]int{1000}, 8)
	for bits := range uint(173) {
		power := new(big.Int).Lsh(big.NewInt(1), bits)
		for _, parts := range []*big.Int{power, new(big.Int).Neg(power), new(big.Int).Add(power, big.NewInt(1)), new(big.Int).Sub(power, big.NewInt(3))} {
			for _, down := range []int{0, 500, 999} {
				awards := near(parts)
				sum := new(big.Rat)
				for i := range awards {
					awards[i].N += down * awards[i].D
					sum = plus(sum, rat(awards[i]))
				}
				estate := minus(sum, new(big.Rat).SetFrac(parts, product()))
				if !estate.IsInt() {
					t.Fatalf("awards %v miss %v", awards, estate)
				}
				nearest := int(estate.Num().Int64())
				for e := max(nearest-1, 0); e <= min(nearest+1, 8000); e++ {
					checkShares(t, c, e, awards, plainShares(c, e, awards))
				}
			}
		}
	}
}

// P8.2, R5: awards with great denominators that share the estate.
func TestSharesGreatDenominators(t *testing.T) {
	source := rand.New(rand.NewPCG(8, 2))
	for range 100 {
		c, awards := make([]int, 8), make([]api.Ratio, 8)
		estate := 0
		for i := range 4 {
			d := primes()[2*i+source.IntN(2)]
			both := 1 + source.IntN(2000)
			n := max(0, both-1000)*d + source.IntN((min(both, 1000)-max(0, both-1000))*d+1)
			awards[i], awards[7-i] = api.Ratio{N: n, D: d}, api.Ratio{N: both*d - n, D: d}
			c[i], c[7-i] = (n+d-1)/d, (both*d-n+d-1)/d
			estate += both
		}
		checkShares(t, c, estate, awards, true)
		checkShares(t, c, estate-1, awards, false)
		i := source.IntN(8)
		awards[i].D++
		checkShares(t, c, estate, awards, plainShares(c, estate, awards))
	}
}

// P8.2.
func TestMissing(t *testing.T) {
	for _, c := range all() {
		for _, estate := range estates(c) {
			n, err := fund.Missing(c, estate)
			check(t, "Missing", n, err, sumOf(c)-estate, api.OK)
		}
	}
	n, err := fund.Missing(slices.Repeat([]int{1000}, 8), 1)
	check(t, "Missing", n, err, 7999, api.OK)
}

// P8.3: the greatest award and the greatest loss.
func TestLevelAndLoss(t *testing.T) {
	for _, c := range all() {
		for _, estate := range estates(c) {
			most, loss := new(big.Rat), new(big.Rat)
			for i, claim := range c {
				most = greater(most, plainAwards(c, estate, equalAwards)[i])
				loss = greater(loss, minus(ratOf(claim), plainAwards(c, estate, equalLosses)[i]))
			}
			r, err := fund.Level(c, estate)
			check(t, "Level", r, err, lowest(most), api.OK)
			r, err = fund.Loss(c, estate)
			check(t, "Loss", r, err, lowest(loss), api.OK)
		}
	}
	for _, x := range []struct {
		c           []int
		estate      int
		level, loss api.Ratio
	}{
		{three(), 0, whole(0), whole(300)}, {three(), 600, whole(300), whole(0)}, {three(), 599, whole(299), api.Ratio{N: 1, D: 3}}, {three(), 1, api.Ratio{N: 1, D: 3}, whole(299)}, {three(), 300, whole(100), whole(100)}, {three(), 450, whole(175), whole(50)}, {three(), 451, api.Ratio{N: 351, D: 2}, api.Ratio{N: 149, D: 3}},
		{[]int{0}, 0, whole(0), whole(0)}, {[]int{0, 0, 0}, 0, whole(0), whole(0)}, {[]int{7}, 3, whole(3), whole(4)}, {[]int{0, 5}, 0, whole(0), whole(5)}, {[]int{0, 5}, 5, whole(5), whole(0)},
		{slices.Repeat([]int{1000}, 8), 4001, api.Ratio{N: 4001, D: 8}, api.Ratio{N: 3999, D: 8}},
	} {
		r, err := fund.Level(x.c, x.estate)
		check(t, "Level", r, err, x.level, api.OK)
		r, err = fund.Loss(x.c, x.estate)
		check(t, "Loss", r, err, x.loss, api.OK)
	}
}
