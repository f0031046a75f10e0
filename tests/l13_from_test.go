package tests

import (
	"math"
	"math/big"
	"testing"

	"loop.example/g00049/impl"
)

func noLight(code int64) impl.JonesResult {
	return impl.JonesResult{Code: code}
}

// turnedLight is the light turned as a whole so that X is real and from 0 on, or Y, if X is 0; none, if that is not whole or out of bounds.
func turnedLight(j impl.Jones) impl.JonesResult {
	by := bigGOf(j.X)
	if j.X == (impl.G{}) {
		by = bigGOf(j.Y)
	}
	square := by.times(by.mirrored()).re
	if square.Sign() == 0 {
		return impl.JonesResult{}
	}
	size := new(big.Int).Sqrt(square)
	turned := bigRows{{bigGOf(j.X).times(by.mirrored())}, {bigGOf(j.Y).times(by.mirrored())}}
	for _, row := range turned {
		for _, part := range []*big.Int{row[0].re, row[0].im} {
			left := new(big.Int)
			part.QuoRem(part, size, left)
			if left.Sign() != 0 {
				return noLight(impl.ErrNone)
			}
		}
	}
	if new(big.Int).Mul(size, size).Cmp(square) != 0 || !turned.withinAmp() {
		return noLight(impl.ErrNone)
	}
	return impl.JonesResult{Jones: impl.Jones{X: turned.at(0, 0), Y: turned.at(1, 0)}}
}

// uprightLight is a light with X.Im 0 and X.Re from 0 on, and with Y.Im 0 and Y.Re from 0 on, if X is 0.
func uprightLight(draw *numbers, most int64) impl.Jones {
	x := draw.below(most + 1)
	if draw.below(6) == 0 {
		x = most * draw.below(2)
	}
	if x == 0 {
		return lightOf(0, 0, draw.below(most+1), 0)
	}
	return lightOf(x, 0, drawnAmp(draw, most), drawnAmp(draw, most))
}

func holdFrom(t *testing.T, s impl.Stokes, want impl.JonesResult) {
	t.Helper()
	for range 2 {
		if got := impl.JonesFrom(s); got != want {
			t.Errorf("JonesFrom(%v) = %v, want %v", s, got, want)
		}
	}
}

func TestJonesFromTold(t *testing.T) {
	// Stage 13's shared test has this one, too.
	holdFrom(t, impl.Stokes{I: 2, V: -2}, impl.JonesResult{Jones: lightOf(1, 0, 0, 1)})
	holdFrom(t, impl.Stokes{I: 2, V: 2}, impl.JonesResult{Jones: lightOf(1, 0, 0, -1)})
	holdFrom(t, impl.Stokes{I: 2, U: 2}, impl.JonesResult{Jones: lightOf(1, 0, 1, 0)})
	holdFrom(t, impl.Stokes{I: 2, U: -2}, impl.JonesResult{Jones: lightOf(1, 0, -1, 0)})
	holdFrom(t, impl.Stokes{I: 1, Q: 1}, impl.JonesResult{Jones: lightOf(1, 0, 0, 0)})
	holdFrom(t, impl.Stokes{I: 29, Q: -21, U: 12, V: -16}, impl.JonesResult{Jones: lightOf(2, 0, 3, 4)})
	holdFrom(t, impl.Stokes{I: 29, Q: -21, U: -12, V: 16}, impl.JonesResult{Jones: lightOf(2, 0, -3, -4)})
	// Without any light, and without X or Y.
	holdFrom(t, impl.Stokes{}, impl.JonesResult{})
	holdFrom(t, impl.Stokes{I: 49, Q: 49}, impl.JonesResult{Jones: lightOf(7, 0, 0, 0)})
	holdFrom(t, impl.Stokes{I: 49, Q: -49}, impl.JonesResult{Jones: lightOf(0, 0, 7, 0)})
	holdFrom(t, impl.Stokes{I: 1, Q: -1}, impl.JonesResult{Jones: lightOf(0, 0, 1, 0)})
}

func TestJonesFromWrongLights(t *testing.T) {
	for _, s := range farStokes() {
		holdFrom(t, s, noLight(impl.ErrRange))
	}
	for _, s := range falseStokes() {
		holdFrom(t, s, noLight(impl.ErrForm))
	}
	holdFrom(t, impl.Stokes{I: -1, Q: 2000000001}, noLight(impl.ErrRange))
	holdFrom(t, impl.Stokes{I: math.MinInt64, Q: math.MinInt64, U: math.MinInt64, V: math.MinInt64}, noLight(impl.ErrRange))
}

func TestJonesFromLightThatIsNotPolarisedWholly(t *testing.T) {
	none, draw := noLight(impl.ErrNone), numbers{state: 1331}
	for _, s := range []impl.Stokes{{I: 1}, {I: 2}, {I: 4}, {I: 2000000000}, {I: 2, Q: 1, U: 1, V: 1}, {I: 3, Q: 1, U: 2, V: 1}, {I: 50, Q: 49}, {I: 50, Q: -49}, {I: 8, U: 2}, {I: 1999999999, Q: 1999999998}} {
		holdFrom(t, s, none)
	}
	for range 2000 {
		told := impl.StokesOf(uprightLight(&draw, 30000)).Stokes
		told.I += 2 * (1 + draw.below(3))
		if impl.StokesFault(told) == impl.OK {
			holdFrom(t, told, none)
		}
		s := drawnStokes(&draw, []int64{9, 1000, 2000000000}[draw.below(3)])
		if bigFourOf(s).spare().Sign() != 0 {
			holdFrom(t, s, none)
		}
	}
}

// TestJonesFromLightsWithoutWholeNumbers: wholly polarised, but a root or a quotient is not whole.
func TestJonesFromLightsWithoutWholeNumbers(t *testing.T) {
	for _, s := range []impl.Stokes{
		// X alone, or Y alone, would be a root that is not whole.
		{I: 2, Q: 2}, {I: 2, Q: -2}, {I: 3, Q: 3}, {I: 48, Q: 48}, {I: 50, Q: -50}, {I: 1999999999, Q: 1999999999}, {I: 2000000000, Q: -2000000000}, {I: 899999999, Q: 899999999}, {I: 899999999, Q: -899999999},
		// I and Q together are odd.
		{I: 1, U: 1}, {I: 1, V: -1}, {I: 3, Q: 2, U: 2, V: 1}, {I: 3, Q: -2, U: 1, V: -2}, {I: 9, Q: 4, U: -4, V: 7}, {I: 1999999999, U: 1999999999},
		// X would be the root of 2, of 3, of 12, of 10^9.
		{I: 4, U: 4}, {I: 4, V: 4}, {I: 6, U: 6}, {I: 24, U: -24}, {I: 2000000000, V: 2000000000},
		// X is 5 or 13, and Y has parts of it.
		{I: 26, Q: 24, U: 6, V: 8}, {I: 26, Q: 24, U: -8, V: 6}, {I: 27, Q: 23, U: 2, V: 14}, {I: 27, Q: 23, U: 14, V: -2}, {I: 170, Q: 168, U: 10, V: 24}, {I: 170, Q: 168, U: -24, V: -10},
	} {
		if bigFourOf(s).spare().Sign() != 0 {
			t.Errorf("%v is not polarised wholly", s)
		}
		holdFrom(t, s, noLight(impl.ErrNone))
	}
}

// TestJonesFromAllSmallNumbers holds every four numbers up to an I of 27 against the lights that there are.
func TestJonesFromAllSmallNumbers(t *testing.T) {
	const most = 27
	lights := map[impl.Stokes]impl.Jones{}
	for x := range int64(6) {
		for re := int64(-6); re <= 6; re++ {
			for im := int64(-6); im <= 6; im++ {
				if x == 0 && (im != 0 || re < 0) {
					continue
				}
				j := lightOf(x, 0, re, im)
				s := stokesByWords(j).Stokes
				if other, ok := lights[s]; ok {
					t.Fatalf("%v and %v have the same four numbers", j, other)
				}
				lights[s] = j
			}
		}
	}
	found := 0
	for i := int64(-1); i <= most; i++ {
		for q := int64(-most); q <= most; q++ {
			for u := int64(-most); u <= most; u++ {
				for v := int64(-most); v <= most; v++ {
					s := impl.Stokes{I: i, Q: q, U: u, V: v}
					want := noLight(impl.ErrNone)
					if j, ok := lights[s]; ok {
						want = impl.JonesResult{Jones: j}
						found++
					} else if i < 0 || i*i < q*q+u*u+v*v {
						want = noLight(impl.ErrForm)
					}
					if got := impl.JonesFrom(s); got != want {
						t.Errorf("JonesFrom(%v) = %v, want %v", s, got, want)
					}
				}
			}
		}
	}
	if found < 100 {
		t.Error(found)
	}
}

func TestJonesFromGreatestLights(t *testing.T) {
	const most, top = 30000, 900000000
	for _, j := range []impl.Jones{
		lightOf(most, 0, 0, 0), lightOf(0, 0, most, 0), lightOf(most, 0, most, 0), lightOf(most, 0, -most, 0), lightOf(most, 0, 0, most), lightOf(most, 0, 0, -most), lightOf(1, 0, most, most), lightOf(1, 0, -most, most), lightOf(14142, 0, most, most), lightOf(14142, 0, -most, -most), lightOf(most, 0, 23452, 23452), lightOf(most, 0, -most, 14142),
	} {
		s := impl.StokesOf(j).Stokes
		holdStokesFault(t, s, impl.OK)
		holdFrom(t, s, impl.JonesResult{Jones: j})
	}
	// Brighter ones have no four numbers within the bounds.
	for _, j := range []impl.Jones{lightOf(14143, 0, most, most), lightOf(most, 0, most, most), lightOf(most, 0, 23453, 23452)} {
		holdFrom(t, impl.StokesOf(j).Stokes, noLight(impl.ErrRange))
	}
	// These four numbers are a whole light's, but X or Y of it would be out of bounds, so no light has them.
	const far = 30001 * 30001
	for _, s := range []impl.Stokes{
		{I: far, Q: far}, {I: far, Q: -far}, {I: 1600000000, Q: 1600000000}, {I: 1999967841, Q: -1999967841},
		{I: far + 1, Q: far - 1, U: 2 * 30001}, {I: far + 1, Q: 1 - far, V: -2 * 30001}, {I: far + 1, Q: 1 - far, U: -2 * 30001}, {I: far + top, Q: far - top, U: 2 * 30001 * most},
		{I: 1225000000, Q: 1225000000},
	} {
		if bigFourOf(s).spare().Sign() != 0 {
			t.Errorf("%v is not polarised wholly", s)
		}
		holdFrom(t, s, noLight(impl.ErrNone))
	}
	// The last one of them is this light's, though: turned, its X would be 35000.
	holdStokesOf(t, lightOf(28000, 21000, 0, 0), toldStokes(1225000000, 1225000000, 0, 0))
}

// TestLightsAreFoundAgain: a light that stands as it is looked for comes back as it was.
func TestLightsAreFoundAgain(t *testing.T) {
	draw, held := numbers{state: 1332}, 0
	for range 5000 {
		j := uprightLight(&draw, []int64{1, 3, 50, 4000, 20000, 30000}[draw.below(6)])
		told := impl.StokesOf(j)
		if impl.StokesFault(told.Stokes) != impl.OK {
			holdFrom(t, told.Stokes, noLight(impl.ErrRange))
			continue
		}
		held++
		holdFrom(t, told.Stokes, impl.JonesResult{Jones: j})
	}
	if held < 2000 {
		t.Error(held)
	}
}

// TestTurnedLightsAreFoundAgain: any other light comes back turned as a whole, if that has whole numbers, and never as a light of other numbers.
func TestTurnedLightsAreFoundAgain(t *testing.T) {
	draw, seen := numbers{state: 1333}, map[int64]int{}
	triples := []impl.G{{Re: 3, Im: 4}, {Re: -4, Im: 3}, {Re: 5, Im: -12}, {Re: -8, Im: -15}, {Im: 1}, {Im: -1}, {Re: -1}, {Re: 20, Im: 21}}
	for range 5000 {
		j := drawnLight(&draw, []int64{1, 4, 60, 20000, 30000}[draw.below(5)])
		if by := triples[draw.below(8)]; draw.below(2) == 0 {
			turned := bigRows{{bigGOf(by), bigGOf(impl.G{})}, {bigGOf(impl.G{}), bigGOf(by)}}.times(bigLight(uprightLight(&draw, 1000)))
			j = impl.Jones{X: turned.at(0, 0), Y: turned.at(1, 0)}
		}
		told := impl.StokesOf(j)
		if told.Code != impl.OK || impl.StokesFault(told.Stokes) != impl.OK {
			continue
		}
		want := turnedLight(j)
		seen[want.Code]++
		holdFrom(t, told.Stokes, want)
		if want.Code == impl.OK {
			holdStokesOf(t, want.Jones, told)
		}
	}
	if seen[impl.OK] < 1000 || seen[impl.ErrNone] < 500 {
		t.Error(seen)
	}
}
