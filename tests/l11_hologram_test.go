package tests

import (
	"math"
	"math/big"
	"slices"
	"testing"

	"loop.example/g00049/impl"
)

func inversesOf(list []int64) []int64 {
	inverses := make([]int64, len(list))
	for i, number := range list {
		inverses[i] = inverseByBig(number)
	}
	return inverses
}

// drawnBeam is a wave without a number whose residue is 0.
func drawnBeam(draw *numbers, n int) []int64 {
	beam := drawnWave(draw, n)
	for i := range beam {
		if residue(big.NewInt(beam[i])) == 0 {
			beam[i]++
		}
	}
	return beam
}

func hologramCode(list []int64, beam []int64) int64 {
	if code := waveCode(list, beam); code != impl.OK {
		return code
	}
	if slices.Contains(residuesOf(beam), 0) {
		return impl.ErrZero
	}
	return impl.OK
}

func hologramByWords(list []int64, beam []int64) impl.WaveResult {
	if code := hologramCode(list, beam); code != impl.OK {
		return noWave(code)
	}
	told := make([]int64, len(list))
	for i := range list {
		x, y := big.NewInt(list[i]), big.NewInt(beam[i])
		x.Mul(x, y)
		told[i] = residue(x.Add(x, y.Mul(y, y)))
	}
	return toldWave(told...)
}

func readingByWords(list []int64, beam []int64) impl.WaveResult {
	if code := hologramCode(list, beam); code != impl.OK {
		return noWave(code)
	}
	read := make([]int64, len(list))
	for i := range list {
		x, y := big.NewInt(list[i]), big.NewInt(beam[i])
		x.Sub(x, y.Mul(y, y))
		read[i] = residue(x.Mul(x, big.NewInt(inverseByBig(beam[i]))))
	}
	return toldWave(read...)
}

func holdHologram(t *testing.T, what string, list []int64, beam []int64, want impl.WaveResult) {
	t.Helper()
	holdWave(t, what+", HologramOf", func() impl.WaveResult { return impl.HologramOf(list, beam) }, want, list, beam)
}

func holdReading(t *testing.T, what string, list []int64, beam []int64, want impl.WaveResult) {
	t.Helper()
	holdWave(t, what+", ReadHologram", func() impl.WaveResult { return impl.ReadHologram(list, beam) }, want, list, beam)
}

// noughts are numbers with the residue 0, whatever their size.
func noughts() []int64 {
	const p = impl.Prime
	return []int64{0, p, -p, 2 * p, -7 * p, p * p, -p * p, math.MaxInt64 / p * p, math.MinInt64 / p * p}
}

func TestHologramTold(t *testing.T) {
	holdHologram(t, "two", []int64{3, 5}, []int64{2, 10}, toldWave(10, 150))
	holdReading(t, "two", []int64{10, 150}, []int64{2, 10}, toldWave(3, 5))
	holdHologram(t, "one", []int64{-1}, []int64{1}, toldWave(0))
	holdReading(t, "one", []int64{0}, []int64{1}, toldWave(impl.Prime-1))
	holdHologram(t, "one", []int64{impl.Prime}, []int64{-1}, toldWave(1))
	holdReading(t, "one", []int64{1}, []int64{2}, toldWave(residue(big.NewInt(-3*499122177))))
	holdReading(t, "one", []int64{2}, []int64{-1}, toldWave(impl.Prime-1))
}

func TestDarkBeams(t *testing.T) {
	draw := numbers{state: 1131}
	for _, n := range []int{1, 2, 4, 64, 1024} {
		list, beam := drawnWave(&draw, n), drawnBeam(&draw, n)
		holdHologram(t, "lit", list, beam, hologramByWords(list, beam))
		holdReading(t, "lit", list, beam, readingByWords(list, beam))
		for _, nought := range noughts() {
			for _, place := range []int{0, n / 2, n - 1} {
				dark := roomy(beam, 0)
				dark[place] = nought
				holdHologram(t, "dark", list, dark, noWave(impl.ErrZero))
				holdReading(t, "dark", list, dark, noWave(impl.ErrZero))
				// Lists of wrong lengths are told ahead of the beam.
				holdHologram(t, "dark, unlike long", append(list[:n:n], list...), dark, noWave(waveCode(make([]int64, 2*n), dark)))
				holdReading(t, "dark, unlike long", append(list[:n:n], list...), dark, noWave(waveCode(make([]int64, 2*n), dark)))
				// A list may be dark, as long as its beam is not.
				holdHologram(t, "dark list", dark, beam, hologramByWords(dark, beam))
				holdReading(t, "dark list", dark, beam, readingByWords(dark, beam))
			}
		}
		wide := roomy(beam, 0)
		holdHologram(t, "dark behind the end", list, wide, hologramByWords(list, beam))
		holdReading(t, "dark behind the end", list, wide, readingByWords(list, beam))
	}
	holdHologram(t, "dark, of no power of two", []int64{1, 2, 3}, []int64{0, 0, 0}, noWave(impl.ErrForm))
	holdReading(t, "dark, too many", make([]int64, 1025), make([]int64, 1025), noWave(impl.ErrMany))
	holdHologram(t, "dark, the beam too long", []int64{1}, make([]int64, 1025), noWave(impl.ErrMany))
	holdReading(t, "dark, the list of no power of two", []int64{1, 2, 3}, make([]int64, 1025), noWave(impl.ErrForm))
}

func TestHologramByWords(t *testing.T) {
	draw := numbers{state: 1132}
	for _, n := range waveLengths() {
		for range 5 {
			list, beam := drawnWave(&draw, n), drawnBeam(&draw, n)
			holdHologram(t, "drawn", list, beam, hologramByWords(list, beam))
			holdReading(t, "drawn", list, beam, readingByWords(list, beam))
			holdHologram(t, "of itself", beam, beam, hologramByWords(beam, beam))
			holdReading(t, "of itself", beam, beam, readingByWords(beam, beam))
		}
	}
	for _, number := range anyNumbers() {
		for _, light := range anyNumbers() {
			holdHologram(t, "edges", []int64{number}, []int64{light}, hologramByWords([]int64{number}, []int64{light}))
			holdReading(t, "edges", []int64{number}, []int64{light}, readingByWords([]int64{number}, []int64{light}))
		}
	}
}

func TestHologramAndReadingUndoEachOther(t *testing.T) {
	draw := numbers{state: 1133}
	for _, n := range waveLengths() {
		for range 10 {
			list, beam := drawnWave(&draw, n), drawnBeam(&draw, n)
			back := toldWave(residuesOf(list)...)
			holdReading(t, "undone", impl.HologramOf(list, beam).List, beam, back)
			holdHologram(t, "undone", impl.ReadHologram(list, beam).List, beam, back)
		}
	}
}

// TestWavesComeBackFromAllAtOnce: spread, shifted, echoed, kept as a hologram and transformed, and undone the other way round.
func TestWavesComeBackFromAllAtOnce(t *testing.T) {
	draw := numbers{state: 1134}
	for _, n := range waveLengths() {
		list, beam, chirp, by := drawnWave(&draw, n), drawnBeam(&draw, n), draw.next()/2, draw.next()/2
		there := impl.ShiftWave(impl.SpreadWave(list, chirp).List, by).List
		there = impl.TransformWave(impl.HologramOf(there, beam).List).List
		here := impl.ReadHologram(impl.RestoreWave(there).List, beam).List
		here = impl.SpreadWave(impl.ShiftWave(here, -by).List, -chirp).List
		if !slices.Equal(here, residuesOf(list)) {
			t.Errorf("%d numbers: %s came back as %s", n, brief(list), brief(here))
		}
	}
}
