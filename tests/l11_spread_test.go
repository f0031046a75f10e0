package tests

import (
	"math"
	"math/big"
	"slices"
	"testing"

	"loop.example/g00049/impl"
)

// spreadWaveByWords transforms, multiplies by w^(chirp j j) with an exponent of any size, and restores.
func spreadWaveByWords(list []int64, chirp int64) impl.WaveResult {
	spectrum := transformByWords(list)
	if spectrum.Code != impl.OK {
		return spectrum
	}
	n, powers := int64(len(list)), rootPowersByWords(len(list))
	for j := range n {
		e := new(big.Int).Mul(big.NewInt(chirp), big.NewInt(j*j))
		power := powers[e.Mod(e, big.NewInt(n)).Int64()]
		spectrum.List[j] = spectrum.List[j] * power % impl.Prime
	}
	return restoreByWords(spectrum.List)
}

func shiftByWords(list []int64, by int64) impl.WaveResult {
	if code := waveCode(list); code != impl.OK {
		return noWave(code)
	}
	n := int64(len(list))
	moved := make([]int64, n)
	for j := range n {
		from := new(big.Int).Sub(big.NewInt(j), big.NewInt(by))
		moved[j] = residue(big.NewInt(list[from.Mod(from, big.NewInt(n)).Int64()]))
	}
	return toldWave(moved...)
}

func holdSpread(t *testing.T, what string, list []int64, chirp int64, want impl.WaveResult) {
	t.Helper()
	holdWave(t, what+", SpreadWave", func() impl.WaveResult { return impl.SpreadWave(list, chirp) }, want, list)
}

func holdShift(t *testing.T, what string, list []int64, by int64, want impl.WaveResult) {
	t.Helper()
	holdWave(t, what+", ShiftWave", func() impl.WaveResult { return impl.ShiftWave(list, by) }, want, list)
}

// stepsOf are chirps, or ways to shift, of a wave of n numbers.
func stepsOf(n int64) []int64 {
	list := []int64{math.MinInt64, math.MinInt64 + 1, math.MaxInt64, math.MaxInt64 - 1, impl.Prime, -impl.Prime, 1 << 32, -1 << 32, 7, -5}
	for _, near := range []int64{0, 1, -1, 2, 3} {
		list = append(list, near, n+near, -n+near, n/2+near, n*n+near, -7*n+near)
	}
	return list
}

func TestSpreadWaveTold(t *testing.T) {
	two := []int64{1, 2}
	holdSpread(t, "two", two, 0, toldWave(1, 2))
	holdSpread(t, "two", two, 1, toldWave(2, 1))
	holdSpread(t, "two", two, -1, toldWave(2, 1))
	holdSpread(t, "two", two, 2, toldWave(1, 2))
	four := []int64{1, 2, 3, 4}
	holdSpread(t, "four", four, 1, toldWave(86583720, 86583721, 911660637, 911660638))
	holdSpread(t, "four", four, -1, toldWave(911660637, 911660638, 86583720, 86583721))
	holdSpread(t, "four", four, 2, toldWave(3, 4, 1, 2))
	holdSpread(t, "four", four, 4, toldWave(1, 2, 3, 4))
	eight := []int64{1, 2, 3, 4, 5, 6, 7, 8}
	holdSpread(t, "eight", eight, 1, toldWave(253186710, 253186711, 253186708, 253186709, 745057653, 745057654, 745057651, 745057652))
	holdSpread(t, "eight", eight, 3, toldWave(20796368, 20796369, 20796366, 20796367, 977447995, 977447996, 977447993, 977447994))
	// All that is alike has a spectrum of one number, at 0, which no chirp turns.
	holdSpread(t, "alike", slices.Repeat([]int64{-3}, 64), 5, toldWave(slices.Repeat([]int64{impl.Prime - 3}, 64)...))
}

func TestSpreadWaveByWords(t *testing.T) {
	draw := numbers{state: 1111}
	for _, n := range []int{1, 2, 4, 8, 16, 32, 64} {
		for _, chirp := range append(stepsOf(int64(n)), draw.next(), draw.next()) {
			list := drawnWave(&draw, n)
			holdSpread(t, "drawn", list, chirp, spreadWaveByWords(list, chirp))
		}
	}
	for _, n := range []int{256, 1024} {
		for _, chirp := range []int64{1, -1, math.MinInt64, math.MaxInt64, int64(n), -int64(n), draw.next()} {
			list := drawnWave(&draw, n)
			holdSpread(t, "drawn", list, chirp, spreadWaveByWords(list, chirp))
		}
	}
}

// TestSpreadWaveComesBack: a chirp's opposite undoes it; the least number has none, but is a multiple of each length.
func TestSpreadWaveComesBack(t *testing.T) {
	draw := numbers{state: 1112}
	for _, n := range waveLengths() {
		list := drawnWave(&draw, n)
		back := toldWave(residuesOf(list)...)
		for _, chirp := range stepsOf(int64(n)) {
			holdSpread(t, "opposite", impl.SpreadWave(list, chirp).List, -chirp, back)
		}
		for _, whole := range []int64{0, int64(n), -int64(n), 1 << 40, math.MinInt64} {
			holdSpread(t, "multiple", list, whole, back)
		}
		if n > 1 && sameWave(impl.SpreadWave(unitWave(n, 0), 1), toldWave(unitWave(n, 0)...)) {
			t.Errorf("a chirp of 1 leaves a unit of %d numbers as it is", n)
		}
	}
}

func TestChirpsAddUp(t *testing.T) {
	draw := numbers{state: 1113}
	for _, n := range waveLengths() {
		for range 10 {
			list, a, b := drawnWave(&draw, n), draw.next()/2, draw.next()/2
			want := impl.SpreadWave(list, a+b)
			holdSpread(t, "sum", impl.SpreadWave(list, a).List, b, want)
			holdSpread(t, "left", list, leftOf(a+b, int64(n)), want)
		}
	}
}

func TestShiftWaveTold(t *testing.T) {
	four := []int64{1, 2, 3, 4}
	for by, want := range map[int64][]int64{
		0: {1, 2, 3, 4}, 1: {4, 1, 2, 3}, 2: {3, 4, 1, 2}, 3: {2, 3, 4, 1}, 4: {1, 2, 3, 4}, 5: {4, 1, 2, 3},
		-1: {2, 3, 4, 1}, -2: {3, 4, 1, 2}, -3: {4, 1, 2, 3}, -4: {1, 2, 3, 4}, -5: {2, 3, 4, 1},
		math.MinInt64: {1, 2, 3, 4}, math.MaxInt64: {2, 3, 4, 1}, math.MinInt64 + 1: {4, 1, 2, 3},
	} {
		holdShift(t, "four", four, by, toldWave(want...))
	}
	holdShift(t, "residues", []int64{-1, impl.Prime}, 1, toldWave(0, impl.Prime-1))
	holdShift(t, "residues", []int64{math.MinInt64, math.MaxInt64}, 0, toldWave(residuesOf([]int64{math.MinInt64, math.MaxInt64})...))
}

func TestShiftWaveByWords(t *testing.T) {
	draw := numbers{state: 1114}
	for _, n := range waveLengths() {
		for _, by := range append(stepsOf(int64(n)), draw.next(), draw.next()) {
			list := drawnWave(&draw, n)
			holdShift(t, "drawn", list, by, shiftByWords(list, by))
			holdShift(t, "opposite", impl.ShiftWave(list, by).List, -by, toldWave(residuesOf(list)...))
		}
	}
}

// TestShiftsAddUp: shifts add up, and are turns of the spectrum.
func TestShiftsAddUp(t *testing.T) {
	draw := numbers{state: 1115}
	for _, n := range waveLengths() {
		list, a, b := drawnWave(&draw, n), draw.next()/2, draw.next()/2
		holdShift(t, "sum", impl.ShiftWave(list, a).List, b, impl.ShiftWave(list, a+b))
		powers, turned := rootPowersByWords(n), impl.TransformWave(list).List
		for j := range turned {
			turned[j] = impl.MulMod(turned[j], powers[leftOf(leftOf(a, int64(n))*int64(j), int64(n))])
		}
		holdRestore(t, "spectrum", turned, impl.ShiftWave(list, a))
	}
}
