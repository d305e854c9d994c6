package boom_test

import (
	"math/rand/v2"
	"slices"
	"testing"

	"skimmer/api"
	"skimmer/boom"
)

// barrier returns Barrier and Cheapest, and whether there is one.
func barrier(t *testing.T, c api.Chart) ([]api.Cell, int, bool) {
	t.Helper()
	l, err := boom.Barrier(c)
	price, err2 := boom.Cheapest(c)
	if err != err2 || err != api.OK && err != api.ErrNone {
		t.Fatalf("Barrier of %v: error %d, and Cheapest: %d", c, err, err2)
	}
	return l, price, err == api.OK
}

// after returns the chart that a function gives, where no error is looked for.
func after(t *testing.T, c api.Chart, err api.Errno) api.Chart {
	t.Helper()
	if err != api.OK {
		t.Fatalf("error %d", err)
	}
	return c
}

// someSets returns sets of booms for a chart of any size.
func someSets(c api.Chart) [][]api.Cell {
	if len(c.Costs) <= 12 {
		return sets(c)
	}
	return drawn(where(c, booms), 12)
}

// P3.8: a set blocks exactly if the chart in which it is land, and no other boom holds, has a barrier.
func TestBarrierOrChannel(t *testing.T) {
	blocked, open := 0, 0
	for _, c := range all() {
		for _, set := range someSets(c) {
			dry, err := boom.Dry(c, set)
			strong, err2 := boom.Strong(after(t, dry, err), 0)
			_, _, has := barrier(t, after(t, strong, err2))
			if blocks(t, c, set) != has {
				t.Errorf("%v, by %v: blocks: %v, and has a barrier: %v", c, set, !has, has)
			}
			_, err = boom.Channel(c, set)
			if (err == api.ErrNone) != has {
				t.Errorf("%v, by %v: Channel: error %d, and has a barrier: %v", c, set, err, has)
			}
			if has {
				blocked++
			} else {
				open++
			}
		}
		if _, _, has := barrier(t, c); has != blocks(t, c, where(c, booms)) {
			t.Errorf("%v has a barrier: %v, and all its booms block: %v", c, has, !has)
		}
	}
	if blocked < 500 || open < 500 {
		t.Errorf("only %d sets block, and %d do not", blocked, open)
	}
}

// P3.8: the same with all barriers of a small chart.
func TestBarrierOrChannelSmall(t *testing.T) {
	for _, c := range small() {
		found := barriers(c)
		for _, set := range sets(c) {
			has := slices.ContainsFunc(found, func(l []api.Cell) bool {
				return !slices.ContainsFunc(boomsOf(c, l), func(cell api.Cell) bool { return !slices.Contains(set, cell) })
			})
			if blocks(t, c, set) != has {
				t.Errorf("%v, by %v: a barrier of it: %v", c, set, has)
			}
		}
	}
}

// P3.9: the barrier is one, costs the least, and heights prove just that.
func TestLeast(t *testing.T) {
	source := rand.New(rand.NewPCG(1, 3))
	for _, c := range all() {
		l, price, has := barrier(t, c)
		if !has {
			continue
		}
		is, err := boom.IsBarrier(c, l)
		check(t, "IsBarrier of Barrier", is, err, true, api.OK)
		sum, err := boom.CostOf(c, l)
		check(t, "CostOf Barrier", sum, err, price, api.OK)
		heights, err := boom.Heights(c)
		if err != api.OK {
			t.Fatalf("Heights: error %d", err)
		}
		for range 20 {
			for _, n := range []int{0, price / 2, price, price + 1, 1000000} {
				is, err := boom.Proves(c, heights, n)
				if err != api.OK || is && n > price {
					t.Errorf("%v: %v prove %d, above %d, error %d", c, heights, n, price, err)
				}
			}
			i := source.IntN(len(heights))
			heights[i] = min(1000000, max(0, heights[i]+source.IntN(5)-2))
		}
		heights, _ = boom.Heights(c)
		is, err = boom.Proves(c, heights, price)
		check(t, "Proves Cheapest", is, err, true, api.OK)
	}
	for _, c := range small() {
		for _, l := range barriers(c) {
			if price, err := boom.Cheapest(c); err != api.OK || price > plainCost(c, l) {
				t.Errorf("%v: %v costs less than %d, error %d", c, l, price, err)
			}
		}
	}
}

// P3.9: no heights at all prove more.
func TestNoHeightsProveMore(t *testing.T) {
	for _, text := range []string{"1 2/2 1", "1 0/-1 2", "2 0/0 1", "3 2", "1/1", "-1 1/1 -1"} {
		c := read(text)
		price, err := boom.Cheapest(c)
		if err != api.OK {
			t.Fatalf("Cheapest: error %d", err)
		}
		heights := make([]int, len(c.Costs))
		proved := 0
		for n := range 1 << (2 * len(heights)) {
			for i := range heights {
				heights[i] = n >> (2 * i) & 3
			}
			for more := range 8 {
				is, err := boom.Proves(c, heights, more)
				check(t, "Proves", is, err, plainProves(c, heights, more), api.OK)
				if is {
					proved = max(proved, more)
				}
			}
		}
		if proved != price {
			t.Errorf("%s: heights prove %d, and the least barrier costs %d", text, proved, price)
		}
	}
}

// P3.10: more booms block if fewer do, and no booms that block cost less than those of Barrier.
func TestSets(t *testing.T) {
	for _, c := range all() {
		l, price, has := barrier(t, c)
		least := boomsOf(c, l)
		if has && (!blocks(t, c, least) || plainCost(c, least) != price) {
			t.Errorf("%v: the booms %v block: %v, and cost %d, not %d", c, least, blocks(t, c, least), plainCost(c, least), price)
		}
		full := where(c, booms)
		for _, set := range someSets(c) {
			if !blocks(t, c, set) {
				continue
			}
			if !has || plainCost(c, set) < price {
				t.Errorf("%v: %v block, and cost less than %d", c, set, price)
			}
			for i := 0; i < len(full); i += 3 {
				if more := append(slices.Clone(set), full[i]); !slices.Contains(set, full[i]) {
					slices.SortFunc(more, compareCells)
					check(t, "Blocks of more", blocks(t, c, more), api.OK, true, api.OK)
				}
			}
		}
	}
}

// P3.10: Thin blocks, and without any one of it does not.
func TestThinBlocks(t *testing.T) {
	thinner := 0
	for _, c := range all() {
		for _, set := range someSets(c) {
			thin, err := boom.Thin(c, set)
			if err == api.ErrNone && !blocks(t, c, set) {
				continue
			}
			if err != api.OK || !blocks(t, c, thin) || !slices.IsSortedFunc(thin, compareCells) {
				t.Errorf("%v: Thin of %v: %v, error %d", c, set, thin, err)
			}
			for i, cell := range thin {
				if !slices.Contains(set, cell) || blocks(t, c, slices.Delete(slices.Clone(thin), i, i+1)) {
					t.Errorf("%v: Thin of %v: %v, with %v", c, set, thin, cell)
				}
			}
			if len(thin) < len(set) {
				thinner++
			}
		}
	}
	if thinner < 500 {
		t.Errorf("only %d sets are thinned", thinner)
	}
}

// P3.11: the least barrier upside down, dried, and of cheap booms alone.
func TestOtherCharts(t *testing.T) {
	for _, c := range all() {
		l, price, has := barrier(t, c)
		turned, err := boom.Turned(c)
		_, other, also := barrier(t, after(t, turned, err))
		if other != price || also != has {
			t.Errorf("%v upside down: %d, not %d", c, other, price)
		}
		again, err := boom.Turned(turned)
		check(t, "Turned of Turned", again, err, c, api.OK)
		if has {
			dry, err := boom.Dry(c, boomsOf(c, l))
			free, err2 := boom.Cheapest(after(t, dry, err))
			check(t, "Cheapest of Dry", free, err2, 0, api.OK)
		}
		for _, most := range []int{0, 1, 2, 4, 9, 50, 100} {
			strong, err := boom.Strong(c, most)
			_, more, still := barrier(t, after(t, strong, err))
			if still && (!has || more < price) {
				t.Errorf("%v with booms up to %d: %d, below %d", c, most, more, price)
			}
			if most == 100 && (still != has || more != price) {
				t.Errorf("%v with all booms: %d, not %d", c, more, price)
			}
		}
	}
}

// P3.11: a channel is one, and all of it is flooded.
func TestChannelIsFlooded(t *testing.T) {
	found := 0
	for _, c := range all() {
		for _, set := range someSets(c) {
			l, err := boom.Channel(c, set)
			if err != api.OK {
				continue
			}
			found++
			is, err := boom.IsChannel(c, set, l)
			check(t, "IsChannel of Channel", is, err, true, api.OK)
			flooded, err := boom.Flooded(c, set)
			for _, cell := range l {
				if err != api.OK || !slices.Contains(flooded, cell) {
					t.Errorf("%v, by %v: %v of the channel is not flooded, error %d", c, set, cell, err)
				}
			}
		}
	}
	if found < 500 {
		t.Errorf("only %d channels", found)
	}
}
