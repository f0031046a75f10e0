package tests

import (
	"math"
	"slices"
	"testing"

	"loop.example/g00049/impl"
)

func noCount() impl.CountResult {
	return impl.CountResult{Code: impl.ErrForm}
}

func toldCount(first int64, second int64, next int64) impl.CountResult {
	return impl.CountResult{First: first, Second: second, Next: next}
}

// splitByWords counts big coins one by one.
func splitByWords(photons int64, num int64, den int64, seed int64) impl.CountResult {
	coins := coinsByWords(seed, photons, den)
	if photons < 0 || photons > 4096 || den < 1 || den > 1000000 || num < 0 || num > den || coins.Code != impl.OK {
		return noCount()
	}
	count := toldCount(0, photons, coins.Next)
	for _, coin := range coins.List {
		if coin < num {
			count.First++
			count.Second--
		}
	}
	return count
}

func holdSplit(t *testing.T, photons int64, num int64, den int64, seed int64, want impl.CountResult) {
	t.Helper()
	for range 2 {
		if got := impl.SplitCounts(photons, num, den, seed); got != want {
			t.Errorf("SplitCounts(%d, %d, %d, %d) = %v, want %v", photons, num, den, seed, got, want)
		}
	}
}

// treeByWords draws each split's coins on from the seed where the split ahead of it stopped.
func treeByWords(photons int64, levels int64, seed int64) impl.CoinResult {
	if photons < 0 || photons > 4096 || levels < 0 || levels > 6 || seed < 0 || seed > 2147483646 {
		return noCoins()
	}
	// All numbers of all levels one behind the other: number k becomes numbers 2 k + 1 and 2 k + 2.
	all := []int64{photons}
	for k := 0; len(all) < 1<<(levels+1)-1; k++ {
		split := splitByWords(all[k], 1, 2, seed)
		all, seed = append(all, split.First, split.Second), split.Next
	}
	return impl.CoinResult{List: all[len(all)-1<<levels:], Next: seed}
}

// holdTree asks twice, and writes over the first answer ahead of looking at the second. A wrong answer ends the test: without the bounds greater trees would be endless.
func holdTree(t *testing.T, photons int64, levels int64, seed int64, want impl.CoinResult) {
	t.Helper()
	got, again := impl.TreeCounts(photons, levels, seed), impl.TreeCounts(photons, levels, seed)
	if !sameCoins(got, want) {
		t.Fatalf("TreeCounts(%d, %d, %d) = %s, want %s", photons, levels, seed, brief(got), brief(want))
	}
	if got.Code != impl.OK && (len(got.List) != 0 || got.Next != 0) {
		t.Errorf("TreeCounts(%d, %d, %d): code %d with photons", photons, levels, seed, got.Code)
	}
	for i := range got.List[:cap(got.List)] {
		got.List[:cap(got.List)][i] = -7
	}
	if !sameCoins(again, want) {
		t.Errorf("TreeCounts(%d, %d, %d) is %s when asked again, want %s", photons, levels, seed, brief(again), brief(want))
	}
}

// wrongPhotons are too few or too many to be split.
func wrongPhotons() []int64 {
	return []int64{-1, -2, -4096, -4097, math.MinInt64, math.MinInt64 + 1, 4097, 4098, 1 << 20, 1 << 32, 1<<32 + 1, math.MaxInt64, math.MaxInt64 - 1}
}

// wrongRates are no numbers from 1 to 10^6.
func wrongRates() []int64 {
	return []int64{0, -1, -2, -1000000, math.MinInt64, math.MinInt64 + 1, 1000001, 1000002, 1000000000, 1 << 32, 1<<32 + 1, math.MaxInt64, math.MaxInt64 - 1}
}

func TestCountBounds(t *testing.T) {
	if impl.MaxPhotons != 4096 {
		t.Error("MaxPhotons", impl.MaxPhotons)
	}
}

// TestSplitCountsTold: from seed 0 on the coins are 11, 530992, 2009194726 and 1182152943.
func TestSplitCountsTold(t *testing.T) {
	holdSplit(t, 1, 1, 2, 0, toldCount(0, 1, 11))
	holdSplit(t, 2, 1, 2, 0, toldCount(1, 1, 530992))
	holdSplit(t, 3, 1, 2, 0, toldCount(2, 1, 2009194726))
	holdSplit(t, 4, 1, 2, 0, toldCount(2, 2, 1182152943))
	for num, first := range []int64{0, 0, 1, 2, 3, 3, 3, 4, 4, 4, 4} { // by tens 1, 2, 6 and 3 are left
		holdSplit(t, 4, int64(num), 10, 0, toldCount(first, 4-first, 1182152943))
	}
	for num, first := range map[int64]int64{0: 0, 11: 0, 12: 1, 152943: 1, 152944: 2, 194726: 2, 194727: 3, 530992: 3, 530993: 4, 999999: 4, 1000000: 4} {
		holdSplit(t, 4, num, 1000000, 0, toldCount(first, 4-first, 1182152943))
	}
	holdSplit(t, 4, 0, 1, 0, toldCount(0, 4, 1182152943))
	holdSplit(t, 4, 1, 1, 0, toldCount(4, 0, 1182152943))
}

func TestSplitCountsOfNoPhotons(t *testing.T) {
	for _, seed := range seeds() {
		for _, den := range []int64{1, 2, 1000000} {
			holdSplit(t, 0, 0, den, seed, toldCount(0, 0, seed))
			holdSplit(t, 0, den, den, seed, toldCount(0, 0, seed))
		}
	}
}

func TestSplitCountsByWords(t *testing.T) {
	draw := numbers{state: 1600}
	for _, seed := range seeds() {
		for _, photons := range []int64{0, 1, 2, 100, 4095, 4096} {
			den := 1 + draw.below(1000000)
			num := draw.below(den + 1)
			for _, share := range [][2]int64{{num, den}, {1, 2}, {999999, 1000000}} {
				holdSplit(t, photons, share[0], share[1], seed, splitByWords(photons, share[0], share[1], seed))
			}
		}
	}
}

// TestSplitCountsAreCoins: they are those of Coins counted one by one.
func TestSplitCountsAreCoins(t *testing.T) {
	draw := numbers{state: 1601}
	for range 400 {
		photons, den, seed := draw.below(4097), 1+draw.below(1000000), draw.below(impl.CoinPrime)
		num := draw.below(den + 1)
		coins := impl.Coins(seed, photons, den)
		count := toldCount(0, 0, coins.Next)
		for _, coin := range coins.List {
			if coin < num {
				count.First++
			} else {
				count.Second++
			}
		}
		holdSplit(t, photons, num, den, seed, count)
	}
}

func TestSplitCountsLoseNoPhoton(t *testing.T) {
	draw := numbers{state: 1602}
	for range 1000 {
		photons, den, seed := draw.below(4097), 1+draw.below(1000000), draw.below(impl.CoinPrime)
		num := draw.below(den + 1)
		all := impl.SplitCounts(photons, num, den, seed)
		if all.Code != impl.OK || all.First < 0 || all.Second < 0 || all.First+all.Second != photons {
			t.Fatalf("SplitCounts(%d, %d, %d, %d) = %v", photons, num, den, seed, all)
		}
		// In two parts, drawn on, they are as many as at once.
		part := draw.below(photons + 1)
		ahead := impl.SplitCounts(part, num, den, seed)
		behind := impl.SplitCounts(photons-part, num, den, ahead.Next)
		holdSplit(t, photons, num, den, seed, toldCount(ahead.First+behind.First, ahead.Second+behind.Second, behind.Next))
	}
}

func TestSplitCountsOfWrongPhotons(t *testing.T) {
	for _, photons := range wrongPhotons() {
		for _, share := range [][2]int64{{0, 1}, {1, 1}, {1, 2}, {1000000, 1000000}} {
			holdSplit(t, photons, share[0], share[1], 7, noCount())
		}
	}
}

func TestSplitCountsOfWrongShares(t *testing.T) {
	for _, photons := range []int64{0, 1, 4096} {
		for _, den := range wrongRates() {
			for _, num := range []int64{0, 1, den, math.MinInt64, math.MaxInt64} {
				holdSplit(t, photons, num, den, 7, noCount())
			}
		}
		for _, den := range []int64{1, 2, 999999, 1000000} {
			for _, num := range []int64{den + 1, den + 2, -1, -2, -den, 1<<32 + 1, math.MinInt64, math.MaxInt64} {
				holdSplit(t, photons, num, den, 7, noCount())
			}
			for _, num := range []int64{0, 1, den - 1, den} {
				holdSplit(t, photons, num, den, 7, splitByWords(photons, num, den, 7))
			}
		}
	}
}

func TestSplitCountsOfWrongSeeds(t *testing.T) {
	for _, seed := range wrongSeeds() {
		for _, photons := range []int64{0, 1, 4096} {
			holdSplit(t, photons, 1, 2, seed, noCount())
			holdSplit(t, photons, 0, 1, seed, noCount())
			holdSplit(t, photons, 1000000, 1000000, seed, noCount())
		}
	}
	holdSplit(t, -1, -1, 0, -1, noCount())
	holdSplit(t, 4097, 2, 1, impl.CoinPrime, noCount())
}

// TestTreeCountsTold: from seed 0 on the coins by 2 are 1, 0, 0, then 1, 0, 0, then 1, 1, 1 and 1.
func TestTreeCountsTold(t *testing.T) {
	holdTree(t, 3, 0, 0, impl.CoinResult{List: []int64{3}})
	holdTree(t, 3, 1, 0, impl.CoinResult{List: []int64{2, 1}, Next: 2009194726})
	holdTree(t, 3, 2, 0, impl.CoinResult{List: []int64{1, 1, 1, 0}, Next: 12282814})
	holdTree(t, 3, 3, 0, impl.CoinResult{List: []int64{0, 1, 0, 1, 0, 1, 0, 0}, Next: 290196889})
	holdTree(t, 5, 1, 0, impl.CoinResult{List: []int64{3, 2}, Next: 769243480})
	holdTree(t, 5, 2, 0, impl.CoinResult{List: []int64{1, 2, 0, 2}, Next: 58199549})
}

func TestTreeCountsOfNoLevel(t *testing.T) {
	for _, seed := range seeds() {
		for _, photons := range []int64{0, 1, 2, 4095, 4096} {
			holdTree(t, photons, 0, seed, impl.CoinResult{List: []int64{photons}, Next: seed})
		}
	}
}

func TestTreeCountsOfNoPhotons(t *testing.T) {
	for _, seed := range seeds() {
		for levels := int64(0); levels <= 6; levels++ {
			holdTree(t, 0, levels, seed, impl.CoinResult{List: make([]int64, 1<<levels), Next: seed})
		}
	}
}

func TestTreeCountsByWords(t *testing.T) {
	draw := numbers{state: 1603}
	for _, seed := range seeds() {
		for levels := int64(0); levels <= 6; levels++ {
			for _, photons := range []int64{1, 2, draw.below(100), draw.below(4097)} {
				holdTree(t, photons, levels, seed, treeByWords(photons, levels, seed))
			}
		}
	}
	for levels := int64(0); levels <= 6; levels++ {
		holdTree(t, 4095, levels, 3, treeByWords(4095, levels, 3))
		holdTree(t, 4096, levels, 3, treeByWords(4096, levels, 3))
	}
}

// TestTreesGoOnFromTheLevelAhead: each level is the splits of the numbers of the one ahead, and no photon is lost.
func TestTreesGoOnFromTheLevelAhead(t *testing.T) {
	draw := numbers{state: 1604}
	for range 200 {
		photons, seed := draw.below(4097), draw.below(impl.CoinPrime)
		ahead := impl.CoinResult{List: []int64{photons}, Next: seed}
		for levels := int64(1); levels <= 6; levels++ {
			next, list := ahead.Next, []int64{}
			for _, n := range ahead.List {
				split := impl.SplitCounts(n, 1, 2, next)
				next, list = split.Next, append(list, split.First, split.Second)
			}
			holdTree(t, photons, levels, seed, impl.CoinResult{List: list, Next: next})
			ahead = impl.TreeCounts(photons, levels, seed)
			sum := int64(0)
			for _, n := range ahead.List {
				sum += n
			}
			if ahead.Code != impl.OK || sum != photons || len(ahead.List) != 1<<levels || slices.Min(ahead.List) < 0 {
				t.Fatalf("TreeCounts(%d, %d, %d) = %v", photons, levels, seed, ahead)
			}
			if end := impl.Coins(impl.TreeCounts(photons, levels-1, seed).Next, photons, 2).Next; end != ahead.Next {
				t.Errorf("TreeCounts(%d, %d, %d) ends at %d, so many coins a level at %d", photons, levels, seed, ahead.Next, end)
			}
		}
	}
}

// TestTreeCountsOutOfBounds: each number wrong by itself, beside right ones.
func TestTreeCountsOutOfBounds(t *testing.T) {
	for levels := int64(0); levels <= 6; levels++ {
		for _, photons := range wrongPhotons() {
			holdTree(t, photons, levels, 7, noCoins())
			holdTree(t, photons, levels, 0, noCoins())
		}
		for _, seed := range wrongSeeds() {
			for _, photons := range []int64{0, 1, 4096} {
				holdTree(t, photons, levels, seed, noCoins())
			}
		}
	}
	for _, levels := range []int64{-1, -2, -6, -64, math.MinInt64, math.MinInt64 + 1, 7, 8, 63, 64, 65, 1 << 32, 1<<32 + 1, math.MaxInt64} {
		for _, photons := range []int64{0, 1, 4096} {
			holdTree(t, photons, levels, 7, noCoins())
			holdTree(t, photons, levels, 0, noCoins())
		}
	}
	holdTree(t, -1, -1, -1, noCoins())
	holdTree(t, 4097, 7, impl.CoinPrime, noCoins())
}
