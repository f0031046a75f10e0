package tests

import (
	"math"
	"slices"
	"testing"

	"loop.example/g00049/impl"
)

func symbolCode(list []int64) int64 {
	if len(list) > 10000 {
		return impl.ErrMany
	}
	for _, symbol := range list {
		if !slices.Contains([]int64{0, 1, 2, 3}, symbol) {
			return impl.ErrRange
		}
	}
	return impl.OK
}

// phasesByWords has the sum of all symbols up to each place.
func phasesByWords(list []int64) impl.WaveResult {
	if code := symbolCode(list); code != impl.OK {
		return noWave(code)
	}
	sum, phases := int64(0), []int64{0}
	for _, symbol := range list {
		sum += symbol
		phases = append(phases, sum%4)
	}
	return toldWave(phases...)
}

// stepsByWords looks for the step that leads from each phase to the next one.
func stepsByWords(list []int64) impl.WaveResult {
	if code := symbolCode(list); code != impl.OK {
		return noWave(code)
	}
	steps := []int64{}
	for i := 0; i+1 < len(list); i++ {
		for step := range int64(4) {
			if (list[i]+step)%4 == list[i+1] {
				steps = append(steps, step)
			}
		}
	}
	return toldWave(steps...)
}

func givenNumbers(list []int64) []int64 {
	if list == nil {
		return nil
	}
	return roomy(list, 2)
}

func holdPhases(t *testing.T, what string, list []int64, want impl.WaveResult) {
	t.Helper()
	given := givenNumbers(list)
	holdWave(t, what+", PhaseEncode", func() impl.WaveResult { return impl.PhaseEncode(given) }, want, given)
}

func holdSymbols(t *testing.T, what string, list []int64, want impl.WaveResult) {
	t.Helper()
	given := givenNumbers(list)
	holdWave(t, what+", PhaseDecode", func() impl.WaveResult { return impl.PhaseDecode(given) }, want, given)
}

func drawnSymbols(draw *numbers, count int) []int64 {
	list := make([]int64, count)
	for i := range list {
		list[i] = draw.below(4)
	}
	return list
}

// wrongSymbols are not 0 to 3.
func wrongSymbols() []int64 {
	return []int64{-1, -2, -3, -4, -5, 4, 5, 7, 8, 256, 1 << 32, 1<<32 + 1, math.MaxInt64, math.MaxInt64 - 3, math.MinInt64, math.MinInt64 + 1}
}

func TestPhasesTold(t *testing.T) {
	holdPhases(t, "nil", nil, toldWave(0))
	holdPhases(t, "none", []int64{}, toldWave(0))
	holdPhases(t, "some", []int64{1, 2, 3, 0, 3, 3}, toldWave(0, 1, 3, 2, 2, 1, 0))
	holdPhases(t, "round", []int64{1, 1, 1, 1, 1}, toldWave(0, 1, 2, 3, 0, 1))
	holdSymbols(t, "nil", nil, toldWave())
	holdSymbols(t, "none", []int64{}, toldWave())
	holdSymbols(t, "some", []int64{0, 1, 3, 2, 2, 1, 0}, toldWave(1, 2, 3, 0, 3, 3))
	holdSymbols(t, "from 2 on", []int64{2, 3, 1, 0, 0, 3, 2}, toldWave(1, 2, 3, 0, 3, 3))
	for symbol := range int64(4) {
		holdPhases(t, "one", []int64{symbol}, toldWave(0, symbol))
		holdSymbols(t, "one", []int64{symbol}, toldWave())
		holdSymbols(t, "from 0", []int64{0, symbol}, toldWave(symbol))
		holdSymbols(t, "to 0", []int64{symbol, 0}, toldWave((4-symbol)%4))
	}
}

// TestPhasesOfAllSmallLists: all lists of up to five symbols.
func TestPhasesOfAllSmallLists(t *testing.T) {
	for count := range 6 {
		for number := range int64(1) << (2 * count) {
			list := []int64{}
			for place := range count {
				list = append(list, number>>(2*place)&3)
			}
			holdPhases(t, "small", list, phasesByWords(list))
			holdSymbols(t, "small", list, stepsByWords(list))
		}
	}
}

func TestPhasesOfManySymbols(t *testing.T) {
	draw := numbers{state: 1760}
	for _, count := range []int{1, 2, 100, 9998, 9999, 10000} {
		for _, list := range [][]int64{drawnSymbols(&draw, count), make([]int64, count), slices.Repeat([]int64{3}, count)} {
			holdPhases(t, "many", list, phasesByWords(list))
			holdSymbols(t, "many", list, stepsByWords(list))
		}
	}
	for _, count := range []int{10001, 10002, 20000, 100001} {
		for _, symbol := range []int64{0, 3, 4, -1, math.MinInt64} {
			list := slices.Repeat([]int64{symbol}, count)
			holdPhases(t, "too many", list, noWave(impl.ErrMany))
			holdSymbols(t, "too many", list, noWave(impl.ErrMany))
		}
	}
	// The phases of as many symbols as may be are one too many to be read.
	holdSymbols(t, "too many phases", impl.PhaseEncode(make([]int64, 10000)).List, noWave(impl.ErrMany))
}

func TestPhasesOfWrongSymbols(t *testing.T) {
	for _, wrong := range wrongSymbols() {
		for _, count := range []int{1, 2, 3, 10000} {
			for _, at := range []int{0, count / 2, count - 1} {
				list := slices.Repeat([]int64{3}, count)
				list[at] = wrong
				holdPhases(t, "wrong", list, noWave(impl.ErrRange))
				holdSymbols(t, "wrong", list, noWave(impl.ErrRange))
			}
		}
	}
}

// TestPhaseStepsComeBack: from whatever phase the receiver begins at.
func TestPhaseStepsComeBack(t *testing.T) {
	draw := numbers{state: 1761}
	for _, count := range []int{0, 1, 2, 3, 50, 1000, 9999} {
		list := drawnSymbols(&draw, count)
		phases := impl.PhaseEncode(list)
		if phases.Code != impl.OK || len(phases.List) != count+1 {
			t.Fatalf("%d symbols become %d phases, code %d", count, len(phases.List), phases.Code)
		}
		for start := range int64(4) {
			turned := slices.Clone(phases.List)
			for i := range turned {
				turned[i] = (turned[i] + start) % 4
			}
			holdSymbols(t, "back", turned, toldWave(list...))
		}
		if count > 0 {
			holdPhases(t, "the other way", impl.PhaseDecode(list).List, phasesByWords(stepsByWords(list).List))
		}
	}
}

// TestPhaseStepsOfOneWrongPhase: it spoils its two neighbouring symbols, and no other.
func TestPhaseStepsOfOneWrongPhase(t *testing.T) {
	draw := numbers{state: 1762}
	list := drawnSymbols(&draw, 20)
	for at := range 21 {
		phases := impl.PhaseEncode(list).List
		phases[at] = (phases[at] + 1) % 4
		want := slices.Clone(list)
		if at > 0 {
			want[at-1] = (want[at-1] + 1) % 4
		}
		if at < 20 {
			want[at] = (want[at] + 3) % 4
		}
		holdSymbols(t, "one wrong", phases, toldWave(want...))
	}
}
