package tests

import (
	"math"
	"slices"
	"testing"

	"loop.example/g00049/impl"
)

func passByWords(list []int64, mask []int64) impl.WaveResult {
	if code := waveCode(list, mask); code != impl.OK {
		return noWave(code)
	}
	a, b, passed := residuesOf(list), residuesOf(mask), make([]int64, len(list))
	for i := range passed {
		passed[i] = a[i] * b[i] % impl.Prime
	}
	return toldWave(passed...)
}

func foldByWords(list []int64, other []int64) impl.WaveResult {
	if code := waveCode(list, other); code != impl.OK {
		return noWave(code)
	}
	n := int64(len(list))
	a, b, fold := residuesOf(list), residuesOf(other), make([]int64, n)
	for j := range n {
		for i := range n {
			fold[j] = (fold[j] + a[i]*b[leftOfSmall(j-i, n)]) % impl.Prime
		}
	}
	return toldWave(fold...)
}

func holdPass(t *testing.T, what string, list []int64, mask []int64, want impl.WaveResult) {
	t.Helper()
	holdWave(t, what+", PassWave", func() impl.WaveResult { return impl.PassWave(list, mask) }, want, list, mask)
}

func holdFold(t *testing.T, what string, a []int64, b []int64, want impl.WaveResult) {
	t.Helper()
	holdWave(t, what+", FoldWaves", func() impl.WaveResult { return impl.FoldWaves(a, b) }, want, a, b)
}

// wrongPairs are lengths of two lists and the code that the first wrong one of them has.
func wrongPairs() map[[2]int]int64 {
	return map[[2]int]int64{
		{0, 0}: impl.ErrForm, {0, 1}: impl.ErrForm, {1, 0}: impl.ErrForm, {0, 1025}: impl.ErrForm, {1025, 0}: impl.ErrMany,
		{3, 3}: impl.ErrForm, {3, 4}: impl.ErrForm, {4, 3}: impl.ErrForm, {3, 1025}: impl.ErrForm, {1025, 3}: impl.ErrMany,
		{3, 2048}: impl.ErrForm, {2048, 3}: impl.ErrMany, {1000, 1025}: impl.ErrForm, {1025, 1000}: impl.ErrMany,
		{4, 8}: impl.ErrForm, {8, 4}: impl.ErrForm, {1, 2}: impl.ErrForm, {2, 1}: impl.ErrForm, {512, 1024}: impl.ErrForm, {1024, 512}: impl.ErrForm,
		{4, 1025}: impl.ErrMany, {1025, 4}: impl.ErrMany, {1024, 2048}: impl.ErrMany, {2048, 1024}: impl.ErrMany, {1, 1025}: impl.ErrMany,
		{1025, 1025}: impl.ErrMany, {2048, 2048}: impl.ErrMany, {1025, 2048}: impl.ErrMany, {4096, 1 << 16}: impl.ErrMany,
	}
}

func TestPairsOfWavesOfWrongLengths(t *testing.T) {
	for lengths, code := range wrongPairs() {
		for _, fill := range []int64{1, 0, -1} {
			a, b := slices.Repeat([]int64{fill}, lengths[0]), slices.Repeat([]int64{fill}, lengths[1])
			holdPass(t, "wrong", a, b, noWave(code))
			holdFold(t, "wrong", a, b, noWave(code))
			holdHologram(t, "wrong", a, b, noWave(code))
			holdReading(t, "wrong", a, b, noWave(code))
		}
	}
	holdPass(t, "none", nil, nil, noWave(impl.ErrForm))
	holdFold(t, "none", nil, []int64{1}, noWave(impl.ErrForm))
	// Room behind the end of a list is no part of it.
	four := []int64{1, 2, 3, 4}
	holdPass(t, "room", four[:2], four, noWave(impl.ErrForm))
	holdFold(t, "room", four, four[:2], noWave(impl.ErrForm))
}

func TestPairsOfWavesOfAllLengths(t *testing.T) {
	lengths := []int{0, 1, 2, 3, 4, 5, 7, 8, 9, 16, 1000, 1023, 1024, 1025, 1026, 2047, 2048, 2049}
	for _, m := range lengths {
		for _, n := range lengths {
			a, b := slices.Repeat([]int64{2}, m), slices.Repeat([]int64{3}, n)
			code := waveCode(a, b)
			if told, wrong := wrongPairs()[[2]int{m, n}]; wrong && told != code || code == impl.OK && m != n {
				t.Error(m, n, code)
			}
			for name, got := range map[string]impl.WaveResult{
				"PassWave": impl.PassWave(a, b), "FoldWaves": impl.FoldWaves(a, b),
				"HologramOf": impl.HologramOf(a, b), "ReadHologram": impl.ReadHologram(a, b),
			} {
				if got.Code != code || code != impl.OK && len(got.List) != 0 {
					t.Errorf("%s of %d and %d numbers: code %d, want %d", name, m, n, got.Code, code)
				}
			}
		}
	}
}

func TestPassWaveTold(t *testing.T) {
	holdPass(t, "four", []int64{1, 2, 3, 4}, []int64{5, 0, -1, impl.Prime + 2}, toldWave(5, 0, impl.Prime-3, 8))
	holdPass(t, "two", []int64{-1, -impl.Prime}, []int64{-1, 9}, toldWave(1, 0))
	holdPass(t, "half", []int64{499122177, 2}, []int64{2, 499122177}, toldWave(1, 1))
}

func TestPassWaveByWords(t *testing.T) {
	draw := numbers{state: 1121}
	for _, n := range waveLengths() {
		for range 10 {
			list, mask := drawnWave(&draw, n), drawnWave(&draw, n)
			holdPass(t, "drawn", list, mask, passByWords(list, mask))
			holdPass(t, "changed about", mask, list, passByWords(list, mask))
		}
		list := drawnWave(&draw, n)
		holdPass(t, "with itself", list, list, passByWords(list, list))
		holdPass(t, "open", list, slices.Repeat([]int64{1}, n), toldWave(residuesOf(list)...))
		holdPass(t, "shut", list, make([]int64, n), toldWave(make([]int64, n)...))
	}
	for _, a := range anyNumbers() {
		for _, b := range anyNumbers() {
			holdPass(t, "edges", []int64{a, b}, []int64{b, 1}, passByWords([]int64{a, b}, []int64{b, 1}))
		}
	}
}

// TestPassedWaveComesBack: a mask without noughts is undone by that of its inverses.
func TestPassedWaveComesBack(t *testing.T) {
	draw := numbers{state: 1122}
	for _, n := range waveLengths() {
		list, mask := drawnWave(&draw, n), drawnBeam(&draw, n)
		holdPass(t, "back", impl.PassWave(list, mask).List, inversesOf(mask), toldWave(residuesOf(list)...))
	}
}

func TestFoldWavesTold(t *testing.T) {
	holdFold(t, "four", []int64{1, 2, 3, 4}, []int64{5, 6, 7, 8}, toldWave(66, 68, 66, 60))
	holdFold(t, "unit", []int64{1, 2, 3, 4}, []int64{0, 1, 0, 0}, toldWave(4, 1, 2, 3))
	holdFold(t, "echo", []int64{1, 2, 3, 4}, []int64{1, 0, 2, 0}, toldWave(7, 10, 5, 8))
	holdFold(t, "below 0", []int64{-1, impl.Prime}, []int64{impl.Prime + 2, -3}, toldWave(impl.Prime-2, 3))
}

func TestFoldWavesByWords(t *testing.T) {
	draw := numbers{state: 1123}
	for _, n := range waveLengths() {
		for range 1 + 2000/(n*n) {
			a, b := drawnWave(&draw, n), drawnWave(&draw, n)
			holdFold(t, "drawn", a, b, foldByWords(a, b))
			holdFold(t, "changed about", b, a, foldByWords(a, b))
		}
		a := drawnWave(&draw, n)
		holdFold(t, "with itself", a, a, foldByWords(a, a))
		greatest, least := slices.Repeat([]int64{math.MaxInt64}, n), slices.Repeat([]int64{math.MinInt64}, n)
		holdFold(t, "edges", greatest, least, foldByWords(greatest, least))
	}
}

// TestFoldIsTheProductOfTransforms: and a unit's fold is a shift.
func TestFoldIsTheProductOfTransforms(t *testing.T) {
	draw := numbers{state: 1124}
	for _, n := range waveLengths() {
		a, b := drawnWave(&draw, n), drawnWave(&draw, n)
		product := impl.PassWave(impl.TransformWave(a).List, impl.TransformWave(b).List)
		holdTransform(t, "fold", impl.FoldWaves(a, b).List, product)
		for _, place := range []int{0, 1 % n, n / 2, n - 1} {
			holdFold(t, "unit", a, unitWave(n, place), impl.ShiftWave(a, int64(place)))
		}
		c := drawnWave(&draw, n)
		holdFold(t, "three", impl.FoldWaves(a, b).List, c, impl.FoldWaves(a, impl.FoldWaves(b, c).List))
	}
}

// TestEchoesComeBack: a wave with its echoes is folded back by the wave whose spectrum has the inverses.
func TestEchoesComeBack(t *testing.T) {
	draw := numbers{state: 1125}
	for _, n := range waveLengths() {
		for range 10 {
			list, echo := drawnWave(&draw, n), unitWave(n, 0)
			echo[draw.below(int64(n))] += 2 + draw.below(1000)
			spectrum := impl.TransformWave(echo).List
			if slices.Contains(spectrum, 0) {
				continue
			}
			undo := impl.RestoreWave(inversesOf(spectrum)).List
			holdFold(t, "undone at once", echo, undo, toldWave(unitWave(n, 0)...))
			holdFold(t, "undone", impl.FoldWaves(list, echo).List, undo, toldWave(residuesOf(list)...))
		}
	}
}
