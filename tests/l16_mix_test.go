package tests

import (
	"math"
	"math/big"
	"testing"

	"loop.example/g00049/impl"
)

// mixing are the arguments of MixPhotons, in their order: a, b, c, up, down and steps.
type mixing [6]int64

func (m mixing) ask() impl.MixResult {
	return impl.MixPhotons(m[0], m[1], m[2], m[3], m[4], m[5])
}

// with is the mixing with another number at a place.
func (m mixing) with(place int, number int64) mixing {
	m[place] = number
	return m
}

func noMixing(code int64) impl.MixResult {
	return impl.MixResult{Code: code}
}

func toldMixing(a int64, b int64, c int64) impl.MixResult {
	return impl.MixResult{A: a, B: b, C: c}
}

func mixingByWords(m mixing) impl.MixResult {
	for place, least := range []int64{0, 0, 0, 1, 1} {
		if m[place] < least || m[place] > 1000000 {
			return noMixing(impl.ErrRange)
		}
	}
	if m[5] < 0 || m[5] > 1000 {
		return noMixing(impl.ErrForm)
	}
	a, b, c := bigOf(m[0]), bigOf(m[1]), bigOf(m[2])
	for range m[5] {
		x := new(big.Int).Quo(bigTimes(a, b), bigOf(m[3]))
		for _, most := range []*big.Int{a, b} {
			if most.Cmp(x) < 0 {
				x = most
			}
		}
		y := new(big.Int).Quo(c, bigOf(m[4]))
		a, b, c = bigPlus(bigLess(a, x), y), bigPlus(bigLess(b, x), y), bigLess(bigPlus(c, x), y)
	}
	return toldMixing(a.Int64(), b.Int64(), c.Int64())
}

// holdMixing ends the test at a wrong answer: without the bounds more steps would be endless.
func holdMixing(t *testing.T, m mixing, want impl.MixResult) {
	t.Helper()
	for range 2 {
		if got := m.ask(); got != want {
			t.Fatalf("MixPhotons%v = %v, want %v", m, got, want)
		}
	}
}

func wrongAmounts() []int64 {
	return []int64{-1, -2, -1000000, math.MinInt64, math.MinInt64 + 1, 1000001, 1000002, 2000000, 1 << 32, 1<<32 + 1, math.MaxInt64, math.MaxInt64 - 1}
}

func wrongSteps() []int64 {
	return []int64{-1, -2, -1000, math.MinInt64, math.MinInt64 + 1, 1001, 1002, 1000000, 1 << 32, 1<<32 + 1, math.MaxInt64}
}

func drawnMixing(draw *numbers) mixing {
	m := mixing{}
	for place := range 5 {
		most := []int64{2, 20, 2000, 1000000}[draw.below(4)]
		m[place] = draw.below(most + 1)
		if place >= 3 {
			m[place] = 1 + draw.below(most)
		}
	}
	m[5] = draw.below([]int64{4, 1001}[draw.below(2)])
	return m
}

func TestMixPhotonsTold(t *testing.T) {
	for steps, want := range []impl.MixResult{toldMixing(10, 6, 8), toldMixing(6, 2, 12), toldMixing(8, 4, 10), toldMixing(7, 3, 11), toldMixing(7, 3, 11), toldMixing(7, 3, 11)} {
		holdMixing(t, mixing{10, 6, 8, 4, 3, int64(steps)}, want)
	}
	for steps, want := range []impl.MixResult{toldMixing(10, 6, 0), toldMixing(8, 4, 2), toldMixing(9, 5, 1), toldMixing(9, 5, 1)} {
		holdMixing(t, mixing{10, 6, 0, 25, 1, int64(steps)}, want)
		holdMixing(t, mixing{6, 10, 0, 25, 1, int64(steps)}, toldMixing(want.B, want.A, want.C))
	}
	holdMixing(t, mixing{2, 9, 5, 1, 2, 1}, toldMixing(2, 9, 5))
	holdMixing(t, mixing{2, 9, 5, 1, 3, 1}, toldMixing(1, 8, 6))
	holdMixing(t, mixing{9, 2, 5, 1, 5, 1}, toldMixing(8, 1, 6))
	holdMixing(t, mixing{9, 2, 5, 1, 6, 1}, toldMixing(7, 0, 7))
	holdMixing(t, mixing{9, 2, 5, 19, 6, 1}, toldMixing(9, 2, 5))
	holdMixing(t, mixing{9, 2, 5, 18, 6, 1}, toldMixing(8, 1, 6))
	// What is made in a step is parted in the next one at the earliest.
	holdMixing(t, mixing{3, 3, 0, 1, 1, 1}, toldMixing(0, 0, 3))
	holdMixing(t, mixing{3, 3, 0, 1, 1, 2}, toldMixing(3, 3, 0))
}

func TestMixPhotonsAtTheBounds(t *testing.T) {
	const m = 1000000
	holdMixing(t, mixing{0, 0, 0, 1, 1, 1000}, toldMixing(0, 0, 0))
	holdMixing(t, mixing{m, m, m, 1, m, 1}, toldMixing(1, 1, 2*m-1))
	holdMixing(t, mixing{m, m, m, 1, 1, 1}, toldMixing(m, m, m))
	holdMixing(t, mixing{m, m, m, 1, 1, 1000}, toldMixing(m, m, m))
	holdMixing(t, mixing{m, m, m, m, 1, 1}, toldMixing(m, m, m))
	holdMixing(t, mixing{m, 0, 0, 1, 1, 1000}, toldMixing(m, 0, 0))
	holdMixing(t, mixing{0, m, 0, 1, 1, 1000}, toldMixing(0, m, 0))
	holdMixing(t, mixing{0, 0, m, m, 1, 1}, toldMixing(m, m, 0))
	holdMixing(t, mixing{0, 0, m, m, m, 1}, toldMixing(1, 1, m-1))
	holdMixing(t, mixing{0, 0, m - 1, m, m, 1000}, toldMixing(0, 0, m-1))
	holdMixing(t, mixing{1, m, 0, m, m, 1}, toldMixing(0, m-1, 1))
	holdMixing(t, mixing{1, m - 1, 0, m, m, 1000}, toldMixing(1, m-1, 0))
	numbers := []int64{0, 1, 2, 999999, m}
	for _, a := range numbers {
		for _, b := range numbers {
			for _, c := range numbers {
				for _, up := range numbers[1:] {
					for _, down := range numbers[1:] {
						for _, steps := range []int64{0, 1, 2, 3} {
							one := mixing{a, b, c, up, down, steps}
							holdMixing(t, one, mixingByWords(one))
						}
					}
				}
			}
		}
	}
}

func TestMixPhotonsFaults(t *testing.T) {
	for _, good := range []mixing{{10, 6, 8, 4, 3, 5}, {0, 0, 0, 1, 1, 0}, {1000000, 1000000, 1000000, 1000000, 1000000, 1000}} {
		for place := range 5 {
			wrong := wrongAmounts()
			if place >= 3 {
				wrong = wrongRates()
			}
			for _, number := range wrong {
				holdMixing(t, good.with(place, number), noMixing(impl.ErrRange))
				for _, steps := range wrongSteps() { // the amounts come ahead of the steps
					holdMixing(t, good.with(place, number).with(5, steps), noMixing(impl.ErrRange))
				}
			}
		}
		for _, steps := range wrongSteps() {
			holdMixing(t, good.with(5, steps), noMixing(impl.ErrForm))
		}
		for _, steps := range []int64{0, 1, 999, 1000} {
			holdMixing(t, good.with(5, steps), mixingByWords(good.with(5, steps)))
		}
	}
	holdMixing(t, mixing{-1, -1, -1, 0, 0, -1}, noMixing(impl.ErrRange))
}

func TestMixPhotonsByWords(t *testing.T) {
	draw := numbers{state: 1640}
	for range 1500 {
		m := drawnMixing(&draw)
		holdMixing(t, m, mixingByWords(m))
		m[5] = 1000
		holdMixing(t, m, mixingByWords(m))
	}
}

// TestMixedPhotonsAreNeitherMadeNorLost: each third photon is one of both colours, in each step.
func TestMixedPhotonsAreNeitherMadeNorLost(t *testing.T) {
	draw := numbers{state: 1641}
	changed := 0
	for range 150 {
		m := drawnMixing(&draw)
		ahead := toldMixing(m[0], m[1], m[2])
		for steps := range int64(60) {
			mix := m.with(5, steps).ask()
			if mix.Code != impl.OK || mix.A+mix.C != m[0]+m[2] || mix.B+mix.C != m[1]+m[2] || min(mix.A, mix.B, mix.C) < 0 {
				t.Fatalf("MixPhotons%v = %v", m.with(5, steps), mix)
			}
			if steps > 0 && max(ahead.A, ahead.B, ahead.C) <= 1000000 {
				holdMixing(t, mixing{ahead.A, ahead.B, ahead.C, m[3], m[4], 1}, mix)
			}
			if mix != ahead {
				changed++
			}
			ahead = mix
		}
	}
	if changed < 1000 {
		t.Error("steps that change something:", changed)
	}
}
