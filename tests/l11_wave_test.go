package tests

import (
	"math"
	"math/big"
	"slices"
	"testing"

	"loop.example/g00049/impl"
)

// waveLengths are all that a wave may have.
func waveLengths() []int {
	return []int{1, 2, 4, 8, 16, 32, 64, 128, 256, 512, 1024}
}

func leftOf(number int64, by int64) int64 {
	return new(big.Int).Mod(big.NewInt(number), big.NewInt(by)).Int64()
}

// waveCode asks the lists as the document does: the first one of everything, then the next one.
func waveCode(lists ...[]int64) int64 {
	for _, list := range lists {
		switch {
		case len(list) > 1024:
			return impl.ErrMany
		case !slices.Contains(waveLengths(), len(list)):
			return impl.ErrForm
		}
	}
	for _, list := range lists {
		if len(list) != len(lists[0]) {
			return impl.ErrForm
		}
	}
	return impl.OK
}

// rootPowersByWords are w^0, w^1 .. w^(n - 1) for a wave of n numbers.
func rootPowersByWords(n int) []int64 {
	root := new(big.Int).Exp(big.NewInt(3), big.NewInt((impl.Prime-1)/int64(n)), bigPrime())
	powers, power := make([]int64, n), big.NewInt(1)
	for e := range powers {
		powers[e] = power.Int64()
		power = new(big.Int).Mod(new(big.Int).Mul(power, root), bigPrime())
	}
	return powers
}

// sumsByWords are the document's sums, number by number; sign is that of the exponents.
func sumsByWords(list []int64, sign int64) []int64 {
	n := int64(len(list))
	residues, powers, sums := residuesOf(list), rootPowersByWords(len(list)), make([]int64, n)
	for j := range n {
		for i := range n {
			sums[j] = (sums[j] + residues[i]*powers[leftOfSmall(sign*i*j, n)]) % impl.Prime
		}
	}
	return sums
}

func leftOfSmall(number int64, by int64) int64 {
	return (number%by + by) % by
}

func inverseByBig(number int64) int64 {
	return new(big.Int).ModInverse(big.NewInt(residue(big.NewInt(number))), bigPrime()).Int64()
}

func transformByWords(list []int64) impl.WaveResult {
	if code := waveCode(list); code != impl.OK {
		return impl.WaveResult{Code: code}
	}
	return impl.WaveResult{List: sumsByWords(list, 1)}
}

func restoreByWords(list []int64) impl.WaveResult {
	if code := waveCode(list); code != impl.OK {
		return impl.WaveResult{Code: code}
	}
	sums, share := sumsByWords(list, -1), inverseByBig(int64(len(list)))
	for j := range sums {
		sums[j] = sums[j] * share % impl.Prime
	}
	return impl.WaveResult{List: sums}
}

func sameWave(a impl.WaveResult, b impl.WaveResult) bool {
	return a.Code == b.Code && slices.Equal(a.List, b.List)
}

// holdWave asks twice, looks whether the lists are left alone, and whether they stay so when the first answer is written over.
func holdWave(t *testing.T, what string, ask func() impl.WaveResult, want impl.WaveResult, lists ...[]int64) {
	t.Helper()
	kept := [][]int64{}
	for _, list := range lists {
		kept = append(kept, slices.Clone(list[:cap(list)]))
	}
	got, again := ask(), ask()
	if !sameWave(got, want) || !sameWave(again, want) {
		t.Errorf("%s: %s is %s, then %s, want %s", what, brief(lists), brief(got), brief(again), brief(want))
	}
	if got.Code != impl.OK && len(got.List) != 0 {
		t.Errorf("%s: code %d with a list", what, got.Code)
	}
	for i := range got.List[:cap(got.List)] {
		got.List[:cap(got.List)][i] ^= -1
	}
	if !sameWave(again, want) {
		t.Errorf("%s: two answers share memory", what)
	}
	for i, list := range lists {
		if !slices.Equal(kept[i], list[:cap(list)]) {
			t.Errorf("%s: list %d is changed, or shares memory with the answer", what, i)
		}
	}
}

func holdTransform(t *testing.T, what string, list []int64, want impl.WaveResult) {
	t.Helper()
	holdWave(t, what+", TransformWave", func() impl.WaveResult { return impl.TransformWave(list) }, want, list)
}

func holdRestore(t *testing.T, what string, list []int64, want impl.WaveResult) {
	t.Helper()
	holdWave(t, what+", RestoreWave", func() impl.WaveResult { return impl.RestoreWave(list) }, want, list)
}

// drawnWave has numbers of all sizes, those at multiples of Prime and the least and greatest among them, and room behind its end.
func drawnWave(draw *numbers, n int) []int64 {
	edges, list := anyNumbers(), make([]int64, n)
	for i := range list {
		list[i] = draw.next()
		if draw.below(2) == 0 {
			list[i] = edges[draw.below(int64(len(edges)))]
		}
	}
	return roomy(list, 77)
}

func toldWave(list ...int64) impl.WaveResult {
	return impl.WaveResult{List: list}
}

func noWave(code int64) impl.WaveResult {
	return impl.WaveResult{Code: code}
}

// unitWave is 1 at one place, else 0.
func unitWave(n int, place int) []int64 {
	list := make([]int64, n)
	list[place] = 1
	return list
}

func TestWaveBounds(t *testing.T) {
	if impl.MaxWave != 10 {
		t.Error(impl.MaxWave)
	}
}

func TestWaveExamplesOfTheStage(t *testing.T) {
	holdTransform(t, "four", []int64{1, 2, 3, 4}, toldWave(10, 173167434, 998244351, 825076915))
	holdRestore(t, "four", []int64{10, 173167434, 998244351, 825076915}, toldWave(1, 2, 3, 4))
	holdTransform(t, "three", []int64{1, 2, 3}, noWave(impl.ErrForm))
	holdFold(t, "two", []int64{1, 2}, []int64{3, 4}, toldWave(11, 10))
	holdFilm(t, 2, 0, impl.ModPlate{A: 1, D: 1})
	holdHologram(t, "dark", []int64{1}, []int64{0}, noWave(impl.ErrZero))
}

func TestTransformWaveTold(t *testing.T) {
	holdTransform(t, "two", []int64{3, 5}, toldWave(8, impl.Prime-2))
	holdRestore(t, "two", []int64{8, -2}, toldWave(3, 5))
	holdRestore(t, "two", []int64{3, 5}, toldWave(4, impl.Prime-1))
	holdRestore(t, "four", []int64{1, 2, 3, 4}, toldWave(499122179, 455830317, 499122176, 542414035))
	holdTransform(t, "below 0", []int64{-1, impl.Prime, -impl.Prime, impl.Prime + 1}, transformByWords([]int64{impl.Prime - 1, 0, 0, 1}))
}

func TestWaveOfOneNumber(t *testing.T) {
	for _, number := range anyNumbers() {
		list, want := roomy([]int64{number}, 5), toldWave(residue(big.NewInt(number)))
		holdTransform(t, "one", list, want)
		holdRestore(t, "one", list, want)
		for _, other := range anyNumbers() {
			holdSpread(t, "one", list, other, want)
			holdShift(t, "one", list, other, want)
			product := toldWave(residue(new(big.Int).Mul(big.NewInt(number), big.NewInt(other))))
			holdPass(t, "one", list, []int64{other}, product)
			holdFold(t, "one", list, []int64{other}, product)
		}
	}
}

// TestWaveLengths: each length up to above the greatest, and some far above it.
func TestWaveLengths(t *testing.T) {
	lengths := []int{2047, 2048, 2049, 3000, 4096, 1 << 16, 1 << 20}
	for n := range 1101 {
		lengths = append(lengths, n)
	}
	draw := numbers{state: 1100}
	for _, n := range lengths {
		list := make([]int64, n)
		for i := range list {
			list[i] = 1 + draw.below(1<<62)
		}
		code := waveCode(list)
		if want := map[bool]int64{true: impl.ErrMany, false: impl.ErrForm}[n > 1024]; code != impl.OK && code != want {
			t.Error(n, code)
		}
		for name, got := range map[string]impl.WaveResult{
			"TransformWave": impl.TransformWave(list), "RestoreWave": impl.RestoreWave(list),
			"SpreadWave": impl.SpreadWave(list, 3), "ShiftWave": impl.ShiftWave(list, 3),
			"PassWave": impl.PassWave(list, list), "FoldWaves": impl.FoldWaves(list, list),
			"HologramOf": impl.HologramOf(list, slices.Repeat([]int64{1}, n)), "ReadHologram": impl.ReadHologram(list, slices.Repeat([]int64{1}, n)),
		} {
			if got.Code != code || code == impl.OK && len(got.List) != n || code != impl.OK && len(got.List) != 0 {
				t.Errorf("%s of %d numbers: code %d with %d numbers, want code %d", name, n, got.Code, len(got.List), code)
			}
		}
	}
	for _, none := range [][]int64{nil, {}, make([]int64, 0, 4)} {
		holdTransform(t, "none", none, noWave(impl.ErrForm))
		holdRestore(t, "none", none, noWave(impl.ErrForm))
		holdSpread(t, "none", none, 1, noWave(impl.ErrForm))
		holdShift(t, "none", none, 1, noWave(impl.ErrForm))
	}
	// 1025 and 2048 are too many whether or not they are powers of two.
	for n, code := range map[int]int64{3: impl.ErrForm, 1000: impl.ErrForm, 1025: impl.ErrMany, 2048: impl.ErrMany} {
		holdTransform(t, "told", make([]int64, n), noWave(code))
		holdRestore(t, "told", make([]int64, n), noWave(code))
		holdSpread(t, "told", make([]int64, n), 2, noWave(code))
		holdShift(t, "told", make([]int64, n), 2, noWave(code))
	}
}

func TestTransformWaveByWords(t *testing.T) {
	draw := numbers{state: 1101}
	for _, n := range waveLengths() {
		for range 1 + 2000/(n*n) {
			list := drawnWave(&draw, n)
			holdTransform(t, "drawn", list, transformByWords(list))
			holdRestore(t, "drawn", list, restoreByWords(list))
		}
		greatest := slices.Repeat([]int64{math.MaxInt64}, n)
		holdTransform(t, "greatest", greatest, transformByWords(greatest))
		least := slices.Repeat([]int64{math.MinInt64}, n)
		holdRestore(t, "least", least, restoreByWords(least))
	}
}

// TestEveryNumberOfAWaveCountsByItsResidue: each edge at each place, against its residue there.
func TestEveryNumberOfAWaveCountsByItsResidue(t *testing.T) {
	draw := numbers{state: 1102}
	for _, n := range []int{2, 4, 8} {
		for _, number := range anyNumbers() {
			for place := range n {
				list := drawnWave(&draw, n)
				list[place] = number
				holdTransform(t, "edge", list, transformByWords(residuesOf(list)))
				holdRestore(t, "edge", list, restoreByWords(residuesOf(list)))
			}
		}
	}
}

// TestTransformOfAUnit: one number alone shows the powers of the root.
func TestTransformOfAUnit(t *testing.T) {
	for _, n := range waveLengths() {
		powers, share := rootPowersByWords(n), inverseByBig(int64(n))
		for _, place := range []int{0, 1 % n, n / 2, n - 1, n * 2 / 3} {
			up, down := make([]int64, n), make([]int64, n)
			for j := range n {
				up[j] = powers[place*j%n]
				down[j] = powers[leftOf(-int64(place*j), int64(n))] * share % impl.Prime
			}
			holdTransform(t, "unit", unitWave(n, place), toldWave(up...))
			holdRestore(t, "unit", unitWave(n, place), toldWave(down...))
		}
	}
}

func TestTransformAndRestoreUndoEachOther(t *testing.T) {
	draw := numbers{state: 1103}
	for _, n := range waveLengths() {
		for range 20 {
			list := drawnWave(&draw, n)
			back := toldWave(residuesOf(list)...)
			holdRestore(t, "undone", impl.TransformWave(list).List, back)
			holdTransform(t, "undone", impl.RestoreWave(list).List, back)
		}
	}
}

// TestTransformAddsUp: the transform of a sum is the sum of the transforms, that of a multiple the multiple.
func TestTransformAddsUp(t *testing.T) {
	draw := numbers{state: 1104}
	for _, n := range waveLengths() {
		a, b, by := drawnWave(&draw, n), drawnWave(&draw, n), draw.next()
		both, sum := make([]int64, n), make([]int64, n)
		ta, tb := impl.TransformWave(a).List, impl.TransformWave(b).List
		if len(ta) != n || len(tb) != n {
			t.Fatal(n, len(ta), len(tb))
		}
		for i := range n {
			both[i] = impl.AddMod(a[i], impl.MulMod(by, b[i]))
			sum[i] = impl.AddMod(ta[i], impl.MulMod(by, tb[i]))
		}
		holdTransform(t, "sum", both, toldWave(sum...))
	}
}
