package tests

import (
	"math"
	"math/big"
	"slices"
	"testing"

	"loop.example/g00049/impl"
)

func noCoins() impl.CoinResult {
	return impl.CoinResult{Code: impl.ErrForm}
}

func coinsByWords(seed int64, n int64, most int64) impl.CoinResult {
	if n < 0 || n > 4096 || most < 1 || most > 1000000000 || seed < 0 || seed > 2147483646 {
		return noCoins()
	}
	x, list := big.NewInt(seed), []int64{}
	for range n {
		x.Mul(x, big.NewInt(48271))
		x.Add(x, big.NewInt(11))
		x.Mod(x, big.NewInt(2147483647))
		list = append(list, x.Int64()%most)
	}
	return impl.CoinResult{List: list, Next: x.Int64()}
}

func sameCoins(a impl.CoinResult, b impl.CoinResult) bool {
	return a.Code == b.Code && slices.Equal(a.List, b.List) && a.Next == b.Next
}

// holdCoins asks twice, and writes over the first answer ahead of looking at the second.
func holdCoins(t *testing.T, seed int64, n int64, most int64, want impl.CoinResult) {
	t.Helper()
	got, again := impl.Coins(seed, n, most), impl.Coins(seed, n, most)
	if !sameCoins(got, want) {
		t.Errorf("Coins(%d, %d, %d) = %s, want %s", seed, n, most, brief(got), brief(want))
	}
	for i := range got.List[:cap(got.List)] {
		got.List[:cap(got.List)][i] = -7
	}
	if !sameCoins(again, want) {
		t.Errorf("Coins(%d, %d, %d) is %s when asked again, want %s", seed, n, most, brief(again), brief(want))
	}
	if got.Code != impl.OK && (len(got.List) != 0 || got.Next != 0) {
		t.Errorf("Coins(%d, %d, %d): code %d with coins", seed, n, most, got.Code)
	}
}

func speckleByWords(k int64, seed int64) impl.ZList {
	if k < 0 || k > 8 {
		return noField(impl.ErrForm)
	}
	coins := coinsByWords(seed, 1<<k, 1048576)
	if coins.Code != impl.OK {
		return noField(impl.ErrForm)
	}
	roots, field := rootsByWords(), []impl.Z{}
	for _, coin := range coins.List {
		field = append(field, turnByWords(roots, coin))
	}
	return spectrumByWords(field)
}

func holdSpeckle(t *testing.T, k int64, seed int64, want impl.ZList) {
	t.Helper()
	holdField(t, "Speckle", func() impl.ZList { return impl.Speckle(k, seed) }, want)
}

// seeds are right ones; wrongSeeds are not.
func seeds() []int64 {
	list := []int64{0, 1, 2, 11, 48271, 1 << 30, 1<<30 + 1, 1234567890, impl.CoinPrime / 2, impl.CoinPrime - 2, impl.CoinPrime - 1}
	draw := numbers{state: 1220}
	for range 20 {
		list = append(list, draw.below(impl.CoinPrime))
	}
	return list
}

func wrongSeeds() []int64 {
	return []int64{-1, -2, -impl.CoinPrime, math.MinInt64, math.MinInt64 + 1, impl.CoinPrime, impl.CoinPrime + 1, 1 << 32, 1<<32 + 1, math.MaxInt64}
}

func TestCoinBounds(t *testing.T) {
	if impl.CoinPrime != 2147483647 || impl.MaxCoins != 4096 {
		t.Error("bounds")
	}
}

func TestCoinsTold(t *testing.T) {
	holdCoins(t, 0, 3, 1000000000, impl.CoinResult{List: []int64{11, 530992, 9194726}, Next: 2009194726})
	holdCoins(t, 0, 1, 10, impl.CoinResult{List: []int64{1}, Next: 11})
	holdCoins(t, 1, 1, 1, impl.CoinResult{List: []int64{0}, Next: 48282})
	holdCoins(t, impl.CoinPrime-1, 1, 1000000000, impl.CoinResult{List: []int64{147435387}, Next: 2147435387})
	for _, seed := range seeds() {
		holdCoins(t, seed, 0, 2, impl.CoinResult{Next: seed})
	}
	// Just one seed is its own next coin, and just one goes on to 0.
	fixed, dark := leftOfFraction(-11, 48270), leftOfFraction(-11, 48271)
	holdCoins(t, fixed, 3, 7, impl.CoinResult{List: []int64{fixed % 7, fixed % 7, fixed % 7}, Next: fixed})
	holdCoins(t, dark, 2, 100, impl.CoinResult{List: []int64{0, 11}, Next: 11})
	holdCoins(t, dark, 1, 100, impl.CoinResult{List: []int64{0}, Next: 0})
}

// leftOfFraction is the number x for which below x is above, modulo CoinPrime.
func leftOfFraction(above int64, below int64) int64 {
	prime := big.NewInt(impl.CoinPrime)
	x := new(big.Int).ModInverse(big.NewInt(below), prime)
	return x.Mod(x.Mul(x, big.NewInt(above)), prime).Int64()
}

func TestCoinsByWords(t *testing.T) {
	draw := numbers{state: 1221}
	for _, seed := range seeds() {
		for _, n := range []int64{0, 1, 2, 3, 100} {
			for _, most := range []int64{1, 2, 3, 10, impl.Turn, 999999999, 1000000000, 1 + draw.below(1000000000)} {
				holdCoins(t, seed, n, most, coinsByWords(seed, n, most))
			}
		}
	}
	for _, most := range []int64{1, 2, 1000000000} {
		for _, n := range []int64{impl.MaxCoins - 1, impl.MaxCoins} {
			holdCoins(t, 5, n, most, coinsByWords(5, n, most))
		}
	}
}

// TestCoinsOutOfBounds: each number wrong by itself, beside right ones.
func TestCoinsOutOfBounds(t *testing.T) {
	for _, n := range []int64{-1, -2, -impl.MaxCoins, math.MinInt64, impl.MaxCoins + 1, 1 << 20, 1 << 32, 1<<32 + 1, math.MaxInt64} {
		holdCoins(t, 1, n, 2, noCoins())
		holdCoins(t, 0, n, 1, noCoins())
	}
	for _, most := range []int64{0, -1, -2, math.MinInt64, 1000000001, 1 << 32, 1<<32 + 1, math.MaxInt64} {
		for _, n := range []int64{0, 1, impl.MaxCoins} {
			holdCoins(t, 1, n, most, noCoins())
		}
	}
	for _, seed := range wrongSeeds() {
		for _, n := range []int64{0, 1, impl.MaxCoins} {
			holdCoins(t, seed, n, 2, noCoins())
		}
	}
	holdCoins(t, -1, -1, 0, noCoins())
}

func TestCoinsInPartsAreThoseAtOnce(t *testing.T) {
	draw := numbers{state: 1222}
	for _, seed := range seeds() {
		for range 6 {
			most, all := 1+draw.below(1000000000), draw.below(impl.MaxCoins+1)
			first := draw.below(all + 1)
			ahead := impl.Coins(seed, first, most)
			behind := impl.Coins(ahead.Next, all-first, most)
			if ahead.Code != impl.OK || behind.Code != impl.OK {
				t.Fatalf("codes %d and %d of seed %d, most %d, %d of %d", ahead.Code, behind.Code, seed, most, first, all)
			}
			holdCoins(t, seed, all, most, impl.CoinResult{List: slices.Concat(ahead.List, behind.List), Next: behind.Next})
		}
		next, list := seed, []int64{}
		for range 50 {
			one := impl.Coins(next, 1, 6)
			next, list = one.Next, append(list, one.List...)
		}
		holdCoins(t, seed, 50, 6, impl.CoinResult{List: list, Next: next})
	}
}

func TestSpeckleTold(t *testing.T) {
	for _, seed := range seeds() {
		coins := impl.Coins(seed, 2, impl.Turn).List
		if len(coins) != 2 {
			t.Fatal(seed, coins)
		}
		first, second := impl.TurnZ(coins[0]), impl.TurnZ(coins[1])
		holdSpeckle(t, 0, seed, toldField(first))
		turned := mulByWords(impl.Z{Re: 1}, second)
		holdSpeckle(t, 1, seed, toldField(addByWords(first, turned), lessByWords(first, turned)))
	}
}

func TestSpeckleByWords(t *testing.T) {
	for k := int64(0); k <= 8; k++ {
		for _, seed := range seeds() {
			holdSpeckle(t, k, seed, speckleByWords(k, seed))
			field := []impl.Z{}
			for _, coin := range impl.Coins(seed, 1<<k, impl.Turn).List {
				field = append(field, impl.TurnZ(coin))
			}
			holdSpeckle(t, k, seed, impl.SpectrumOf(field))
			if power := impl.PowerOf(impl.Speckle(k, seed).List); !(math.Abs(power-math.Exp2(float64(2*k))) <= 1e-12*power) {
				t.Errorf("the power of a speckle of 2^%d numbers is %v", k, power)
			}
		}
	}
}

func TestSpeckleOutOfBounds(t *testing.T) {
	none := noField(impl.ErrForm)
	for _, k := range []int64{-1, -2, -64, math.MinInt64, 9, 10, 11, 12, 13, 62, 63, 64, 65, 1 << 32, math.MaxInt64} {
		for _, seed := range []int64{0, 1, impl.CoinPrime - 1, -1, impl.CoinPrime} {
			holdSpeckle(t, k, seed, none)
		}
	}
	for k := int64(0); k <= 8; k++ {
		for _, seed := range wrongSeeds() {
			holdSpeckle(t, k, seed, none)
		}
	}
}
