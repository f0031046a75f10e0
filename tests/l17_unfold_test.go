package tests

import (
	"math"
	"slices"
	"testing"

	"loop.example/g00049/impl"
)

func holdUnfold(t *testing.T, what string, list []int64, echo []int64, want impl.WaveResult) {
	t.Helper()
	holdWave(t, what+", UnfoldWave", func() impl.WaveResult { return impl.UnfoldWave(list, echo) }, want, list, echo)
}

// drawnEcho is a wave whose transform has no 0.
func drawnEcho(draw *numbers, n int) []int64 {
	for {
		echo := drawnWave(draw, n)
		if !slices.Contains(sumsByWords(echo, 1), 0) {
			return echo
		}
	}
}

func TestUnfoldWaveTold(t *testing.T) {
	holdUnfold(t, "echo", []int64{7, 10, 5, 8}, []int64{1, 0, 2, 0}, toldWave(1, 2, 3, 4))
	holdUnfold(t, "shift", []int64{4, 1, 2, 3}, []int64{0, 1, 0, 0}, toldWave(1, 2, 3, 4))
	holdUnfold(t, "one number", []int64{6}, []int64{2}, toldWave(3))
	holdUnfold(t, "half", []int64{1}, []int64{2}, toldWave(499122177))
	holdUnfold(t, "two numbers", []int64{5, 4}, []int64{2, 1}, toldWave(2, 1))
	holdUnfold(t, "below 0", []int64{-4, -5 - impl.Prime}, []int64{2, 1 + impl.Prime}, toldWave(impl.Prime-1, impl.Prime-2))
	holdUnfold(t, "nothing", []int64{0, 0, 0, 0}, []int64{1, 0, 2, 0}, toldWave(0, 0, 0, 0))
}

// TestFoldedWavesComeBack: to the last bit, whichever of the two was the echo.
func TestFoldedWavesComeBack(t *testing.T) {
	draw := numbers{state: 1780}
	for _, n := range waveLengths() {
		for range 6 {
			list, echo := drawnWave(&draw, n), drawnEcho(&draw, n)
			holdUnfold(t, "back", impl.FoldWaves(echo, list).List, echo, toldWave(residuesOf(list)...))
			holdUnfold(t, "changed about", impl.FoldWaves(list, echo).List, echo, toldWave(residuesOf(list)...))
			unfolded := impl.UnfoldWave(list, echo)
			holdFold(t, "the other way", echo, unfolded.List, toldWave(residuesOf(list)...))
			holdFold(t, "by words", echo, unfolded.List, foldByWords(echo, unfolded.List))
		}
		list := drawnWave(&draw, n)
		holdUnfold(t, "itself alone", list, unitWave(n, 0), toldWave(residuesOf(list)...))
		holdUnfold(t, "an echo twice as loud", list, append([]int64{2}, make([]int64, n-1)...), impl.PassWave(list, slices.Repeat([]int64{499122177}, n)))
		for _, place := range []int{0, 1 % n, n / 2, n - 1} {
			holdUnfold(t, "late", list, unitWave(n, place), impl.ShiftWave(list, -int64(place)))
		}
		echo := drawnEcho(&draw, n)
		holdUnfold(t, "by itself", echo, echo, toldWave(unitWave(n, 0)...))
	}
}

// TestUnfoldWaveOfSilentEchoes: a 0 at any place of the transform can't be undone, whatever the list is.
func TestUnfoldWaveOfSilentEchoes(t *testing.T) {
	draw := numbers{state: 1781}
	for _, n := range waveLengths() {
		list := drawnWave(&draw, n)
		for _, place := range []int{0, 1 % n, n / 2, n - 1} {
			spectrum := drawnBeam(&draw, n)
			spectrum[place] = []int64{0, impl.Prime, -impl.Prime}[draw.below(3)]
			echo := impl.RestoreWave(spectrum).List
			holdUnfold(t, "silent", list, echo, noWave(impl.ErrZero))
			holdUnfold(t, "what was folded", impl.FoldWaves(echo, list).List, echo, noWave(impl.ErrZero))
			holdUnfold(t, "of nothing", make([]int64, n), echo, noWave(impl.ErrZero))
			spectrum[place] = 1
			echo = impl.RestoreWave(spectrum).List
			holdUnfold(t, "not silent", impl.FoldWaves(list, echo).List, echo, toldWave(residuesOf(list)...))
		}
		holdUnfold(t, "no echo", list, make([]int64, n), noWave(impl.ErrZero))
		holdUnfold(t, "no echo by residues", list, slices.Repeat([]int64{-impl.Prime}, n), noWave(impl.ErrZero))
		if n > 1 {
			holdUnfold(t, "all alike", list, slices.Repeat([]int64{1}, n), noWave(impl.ErrZero))
			holdUnfold(t, "turned", list, append([]int64{1, -1}, make([]int64, n-2)...), noWave(impl.ErrZero))
		}
	}
	holdUnfold(t, "one nought", []int64{5}, []int64{0}, noWave(impl.ErrZero))
	holdUnfold(t, "one prime", []int64{5}, []int64{impl.Prime}, noWave(impl.ErrZero))
}

// TestUnfoldWaveOfWrongLengths: the list's faults, then the echo's, all of them ahead of an echo that is silent.
func TestUnfoldWaveOfWrongLengths(t *testing.T) {
	for lengths, code := range wrongPairs() {
		for _, fill := range []int64{1, 0, -1} {
			holdUnfold(t, "wrong", slices.Repeat([]int64{fill}, lengths[0]), slices.Repeat([]int64{fill}, lengths[1]), noWave(code))
		}
	}
	holdUnfold(t, "nil", nil, nil, noWave(impl.ErrForm))
	holdUnfold(t, "nil list", nil, []int64{1}, noWave(impl.ErrForm))
	holdUnfold(t, "nil echo", []int64{1}, nil, noWave(impl.ErrForm))
	holdUnfold(t, "nil list, long echo", nil, make([]int64, 1025), noWave(impl.ErrForm))
	holdUnfold(t, "long list, nil echo", make([]int64, 1025), nil, noWave(impl.ErrMany))
	four := []int64{1, 2, 3, 5}
	holdUnfold(t, "room", four[:2], four, noWave(impl.ErrForm))
	holdUnfold(t, "room", four, four[:2], noWave(impl.ErrForm))
	lengths := []int{0, 1, 2, 3, 4, 5, 8, 1000, 1024, 1025, 2048}
	for _, m := range lengths {
		for _, n := range lengths {
			list, echo := make([]int64, m), make([]int64, n)
			if n > 0 {
				echo[0] = 3
			}
			if got, want := impl.UnfoldWave(list, echo), waveCode(list, echo); got.Code != want {
				t.Errorf("%d and %d numbers: code %d, want %d", m, n, got.Code, want)
			}
		}
	}
}

func TestUnfoldWaveOfEdges(t *testing.T) {
	for _, a := range anyNumbers() {
		for _, b := range anyNumbers() {
			want := noWave(impl.ErrZero)
			if residuesOf([]int64{b})[0] != 0 {
				want = toldWave(residuesOf([]int64{residuesOf([]int64{a})[0] * inverseByBig(b)})...)
			}
			holdUnfold(t, "one number", []int64{a}, []int64{b}, want)
		}
	}
	greatest, least := slices.Repeat([]int64{math.MaxInt64}, 1024), append([]int64{math.MinInt64}, make([]int64, 1023)...)
	holdUnfold(t, "greatest", impl.FoldWaves(greatest, least).List, least, toldWave(residuesOf(greatest)...))
}
