package tests

import (
	"math"
	"math/big"
	"slices"
	"testing"

	"loop.example/g00049/impl"
)

// bigFour are a light's four numbers without bounds.
type bigFour [4]*big.Int

func bigFourOf(s impl.Stokes) bigFour {
	return bigFour{big.NewInt(s.I), big.NewInt(s.Q), big.NewInt(s.U), big.NewInt(s.V)}
}

// bigStokes goes by X and Y and by X times Y mirrored: half of U is its Re, half of V its Im.
func bigStokes(light bigRows) bigFour {
	x, y := light[0][0], light[1][0]
	along, across, both := x.times(x.mirrored()).re, y.times(y.mirrored()).re, x.times(y.mirrored())
	return bigFour{new(big.Int).Add(along, across), new(big.Int).Sub(along, across), new(big.Int).Add(both.re, both.re), new(big.Int).Add(both.im, both.im)}
}

func (f bigFour) told() impl.Stokes {
	return impl.Stokes{I: f[0].Int64(), Q: f[1].Int64(), U: f[2].Int64(), V: f[3].Int64()}
}

// withinStokes asks for each of them.
func (f bigFour) withinStokes() bool {
	for _, number := range f {
		if number.CmpAbs(big.NewInt(2000000000)) > 0 {
			return false
		}
	}
	return true
}

// spare is I I less the sum of the squares of the others.
func (f bigFour) spare() *big.Int {
	left := new(big.Int).Mul(f[0], f[0])
	for _, number := range f[1:] {
		left.Sub(left, new(big.Int).Mul(number, number))
	}
	return left
}

func stokesCode(s impl.Stokes) int64 {
	four := bigFourOf(s)
	if !four.withinStokes() {
		return impl.ErrRange
	}
	if four[0].Sign() < 0 || four.spare().Sign() < 0 {
		return impl.ErrForm
	}
	return impl.OK
}

func stokesByWords(j impl.Jones) impl.StokesResult {
	if !bigLight(j).withinAmp() {
		return impl.StokesResult{Code: impl.ErrRange}
	}
	return impl.StokesResult{Stokes: bigStokes(bigLight(j)).told()}
}

func mixStokesByWords(list []impl.Stokes) impl.StokesResult {
	if len(list) > 100 {
		return impl.StokesResult{Code: impl.ErrMany}
	}
	sums := bigFourOf(impl.Stokes{})
	for _, s := range list {
		if code := stokesCode(s); code != impl.OK {
			return impl.StokesResult{Code: code}
		}
		for i, number := range bigFourOf(s) {
			sums[i].Add(sums[i], number)
		}
	}
	if !sums.withinStokes() {
		return impl.StokesResult{Code: impl.ErrRange}
	}
	return impl.StokesResult{Stokes: sums.told()}
}

func partsOfStokes(s *impl.Stokes) []*int64 {
	return []*int64{&s.I, &s.Q, &s.U, &s.V}
}

func noStokes(code int64) impl.StokesResult {
	return impl.StokesResult{Code: code}
}

func toldStokes(i int64, q int64, u int64, v int64) impl.StokesResult {
	return impl.StokesResult{Stokes: impl.Stokes{I: i, Q: q, U: u, V: v}}
}

// drawnStokes draws numbers that are a light's four; I is at most that.
func drawnStokes(draw *numbers, most int64) impl.Stokes {
	for {
		s := impl.Stokes{I: draw.below(most + 1)}
		s.Q, s.U, s.V = drawnAmp(draw, s.I), drawnAmp(draw, s.I), drawnAmp(draw, s.I)
		if stokesCode(s) == impl.OK {
			return s
		}
	}
}

// farStokes have one number each that is out of bounds.
func farStokes() []impl.Stokes {
	list := []impl.Stokes{}
	for place := range 4 {
		for _, number := range []int64{2000000001, -2000000001, 4000000000, 1 << 32, math.MaxInt64, math.MinInt64} {
			s := impl.Stokes{I: 3, Q: 1, U: 2, V: 2}
			*partsOfStokes(&s)[place] = number
			list = append(list, s)
		}
	}
	return list
}

// falseStokes are within their bounds, but no light's.
func falseStokes() []impl.Stokes {
	const most = 2000000000
	return []impl.Stokes{
		{I: -1}, {I: -3, Q: 1, U: 2, V: 2}, {I: -most}, {I: -most, Q: -most}, {Q: 1}, {U: -1}, {V: 1}, {I: 1, Q: 2}, {I: 1, Q: 1, V: 1}, {I: 2, Q: 2, U: 0, V: -1}, {I: 2, Q: 2, U: 1}, {I: 3, Q: 2, U: 2, V: 2},
		{I: most, Q: most, U: most, V: most}, {I: most, Q: -most, U: -most, V: -most}, {I: most, Q: most, U: 1}, {I: most, Q: most, V: -1}, {I: most, U: most, V: most}, {Q: most, U: most, V: most}, {I: 44721, V: most},
	}
}

func holdStokesOf(t *testing.T, j impl.Jones, want impl.StokesResult) {
	t.Helper()
	for range 2 {
		if got := impl.StokesOf(j); got != want {
			t.Errorf("StokesOf(%v) = %v, want %v", j, got, want)
		}
	}
}

func holdStokesFault(t *testing.T, s impl.Stokes, want int64) {
	t.Helper()
	if got := impl.StokesFault(s); got != want || stokesCode(s) != want {
		t.Errorf("StokesFault(%v) = %d, want %d", s, got, want)
	}
}

// holdMixed looks at the list behind its end, too.
func holdMixed(t *testing.T, what string, list []impl.Stokes, want impl.StokesResult) {
	t.Helper()
	list = roomy(list, impl.Stokes{I: 9, Q: 8})
	kept := slices.Clone(list[:cap(list)])
	for range 2 {
		if got := impl.MixStokes(list); got != want {
			t.Errorf("%s: MixStokes(%s) = %v, want %v", what, brief(list), got, want)
		}
	}
	if !slices.Equal(kept, list[:cap(list)]) {
		t.Errorf("%s: MixStokes changes its list", what)
	}
}

func TestStokesOfTheDocument(t *testing.T) {
	holdStokesOf(t, lightOf(1, 0, 0, 1), toldStokes(2, 0, 0, -2))
}

func TestStokesOfTold(t *testing.T) {
	holdStokesOf(t, impl.Jones{}, impl.StokesResult{})
	holdStokesOf(t, lightOf(1, 0, 0, 0), toldStokes(1, 1, 0, 0))
	holdStokesOf(t, lightOf(0, -3, 0, 0), toldStokes(9, 9, 0, 0))
	holdStokesOf(t, lightOf(0, 0, 2, 0), toldStokes(4, -4, 0, 0))
	holdStokesOf(t, lightOf(0, 0, 0, -2), toldStokes(4, -4, 0, 0))
	holdStokesOf(t, lightOf(1, 0, 1, 0), toldStokes(2, 0, 2, 0))
	holdStokesOf(t, lightOf(1, 0, -1, 0), toldStokes(2, 0, -2, 0))
	holdStokesOf(t, lightOf(0, 1, 0, 1), toldStokes(2, 0, 2, 0))
	// V is above 0 where X is ahead of Y by a quarter, below 0 where it is behind.
	holdStokesOf(t, lightOf(0, 1, 1, 0), toldStokes(2, 0, 0, 2))
	holdStokesOf(t, lightOf(1, 0, 0, -1), toldStokes(2, 0, 0, 2))
	holdStokesOf(t, lightOf(0, -1, 1, 0), toldStokes(2, 0, 0, -2))
	holdStokesOf(t, lightOf(1, 2, 3, 4), toldStokes(30, -20, 22, 4))
	holdStokesOf(t, lightOf(3, 4, 1, 2), toldStokes(30, 20, 22, -4))
	holdStokesOf(t, lightOf(-1, 2, 3, -4), toldStokes(30, -20, -22, 4))
}

// TestStokesOfGreatestLights: what comes out is told, though it may be too much for StokesFault.
func TestStokesOfGreatestLights(t *testing.T) {
	const a = 30000
	holdStokesOf(t, lightOf(a, a, a, a), toldStokes(3600000000, 0, 3600000000, 0))
	holdStokesOf(t, lightOf(a, a, -a, -a), toldStokes(3600000000, 0, -3600000000, 0))
	holdStokesOf(t, lightOf(a, a, a, -a), toldStokes(3600000000, 0, 0, 3600000000))
	holdStokesOf(t, lightOf(a, a, -a, a), toldStokes(3600000000, 0, 0, -3600000000))
	holdStokesOf(t, lightOf(-a, -a, 0, 0), toldStokes(1800000000, 1800000000, 0, 0))
	holdStokesOf(t, lightOf(0, 0, a, -a), toldStokes(1800000000, -1800000000, 0, 0))
	holdStokesFault(t, impl.StokesOf(lightOf(a, a, a, a)).Stokes, impl.ErrRange)
	holdStokesFault(t, impl.StokesOf(lightOf(a, a, 0, 0)).Stokes, impl.OK)
	for _, j := range wrongLights() {
		holdStokesOf(t, j, noStokes(impl.ErrRange))
	}
	holdStokesOf(t, lightOf(a+1, a+1, -a-1, -a-1), noStokes(impl.ErrRange))
}

// TestLightsArePolarisedWholly: the sum of the squares of Q, U and V is that of I; a light that is turned as a whole has the same four.
func TestLightsArePolarisedWholly(t *testing.T) {
	draw := numbers{state: 1311}
	for range 3000 {
		j := drawnLight(&draw, []int64{1, 5, 1000, 30000, 30001}[draw.below(5)])
		want := stokesByWords(j)
		holdStokesOf(t, j, want)
		if want.Code != impl.OK {
			continue
		}
		if spare := bigFourOf(impl.StokesOf(j).Stokes).spare(); spare.Sign() != 0 {
			t.Errorf("StokesOf(%v) is %v off", j, spare)
		}
		holdStokesOf(t, lightOf(-j.X.Im, j.X.Re, -j.Y.Im, j.Y.Re), want)
		holdStokesOf(t, lightOf(-j.X.Re, -j.X.Im, -j.Y.Re, -j.Y.Im), want)
	}
}

func TestNumbersOfStokes(t *testing.T) {
	for number, right := range map[int64]bool{
		2000000000: true, 1999999999: true, -2000000000: true, 0: true, 1: true, -1: true, 2000000001: false, -2000000001: false, 4000000000: false, -4000000000: false, 1 << 31: false, -1 << 31: false, 1 << 32: false, 1<<32 + 1: false, 3037000500: false, 6074001000: false,
		math.MaxInt64: false, math.MinInt64: false, math.MaxInt64 - 1: false, math.MinInt64 + 1: false,
	} {
		for place := range 4 {
			s := impl.Stokes{I: 2000000000}
			*partsOfStokes(&s)[place] = number
			want := codeFor(right)
			if place == 0 && number < 0 && right {
				want = impl.ErrForm
			}
			holdStokesFault(t, s, want)
			// Out of bounds is told ahead of I below 0, and of too little I.
			s = impl.Stokes{I: -1, Q: 1}
			*partsOfStokes(&s)[place] = number
			if place == 0 {
				continue
			}
			if right {
				holdStokesFault(t, s, impl.ErrForm)
			} else {
				holdStokesFault(t, s, impl.ErrRange)
			}
		}
	}
	for _, s := range farStokes() {
		holdStokesFault(t, s, impl.ErrRange)
		for place := range 4 {
			twice := s
			*partsOfStokes(&twice)[place] = math.MinInt64
			holdStokesFault(t, twice, impl.ErrRange)
		}
	}
	for _, s := range falseStokes() {
		holdStokesFault(t, s, impl.ErrForm)
	}
}

func TestStokesNearTheirSquares(t *testing.T) {
	holdStokesFault(t, impl.Stokes{}, impl.OK)
	for _, s := range []impl.Stokes{
		{I: 1, Q: 1}, {I: 1, U: -1}, {I: 1, V: 1}, {I: 3, Q: 1, U: 2, V: -2}, {I: 2, Q: 1, U: 1, V: 1}, {I: 5, Q: 3, V: 4}, {I: 2000000000, Q: 2000000000}, {I: 2000000000, U: -2000000000}, {I: 2000000000, V: 2000000000},
		{I: 2000000000, Q: 1200000000, U: -1600000000}, {I: 2000000000},
	} {
		holdStokesFault(t, s, impl.OK)
	}
	// The squares of k and k + 1 together are 2 I - 1, those of n twice 2 I - 2; so I I is just the sum, and one more.
	const k, n = 44720, 44721
	const just, more = (k*k + (k+1)*(k+1) + 1) / 2, n*n + 1
	for _, order := range [][3]int{{0, 1, 2}, {1, 2, 0}, {2, 0, 1}} {
		for _, sign := range []int64{1, -1} {
			for _, one := range []struct {
				i      int64
				others [3]int64
				spare  int64
				code   int64
			}{
				{just, [3]int64{just - 1, k, k + 1}, 0, impl.OK}, {more, [3]int64{more - 1, n, n}, 1, impl.OK}, {just, [3]int64{just, 1, 0}, -1, impl.ErrForm}, {just, [3]int64{just, 0, 0}, 0, impl.OK}, {just - 1, [3]int64{just - 1, k, k + 1}, 1 - 2*just, impl.ErrForm}, {just + 1, [3]int64{just - 1, k, k + 1}, 2*just + 1, impl.OK}, {2, [3]int64{2, 1, 0}, -1, impl.ErrForm}, {2, [3]int64{1, 1, 1}, 1, impl.OK},
			} {
				s := impl.Stokes{I: one.i, Q: sign * one.others[order[0]], U: one.others[order[1]], V: sign * one.others[order[2]]}
				holdStokesFault(t, s, one.code)
				if spare := bigFourOf(s).spare(); spare.Cmp(big.NewInt(one.spare)) != 0 {
					t.Errorf("%v: %v to spare, not %d", s, spare, one.spare)
				}
			}
		}
	}
}

func TestStokesFaultByWords(t *testing.T) {
	draw, seen := numbers{state: 1312}, map[int64]int{}
	for range 20000 {
		most := []int64{3, 100, 2000000000, 2000000001, 3000000000}[draw.below(5)]
		s := impl.Stokes{I: drawnAmp(&draw, most), Q: drawnAmp(&draw, most), U: drawnAmp(&draw, most), V: drawnAmp(&draw, most)}
		if draw.below(2) == 0 {
			s.I = max(s.I, -s.I)
		}
		want := stokesCode(s)
		seen[want]++
		holdStokesFault(t, s, want)
	}
	if seen[impl.OK] < 500 || seen[impl.ErrRange] < 500 || seen[impl.ErrForm] < 500 {
		t.Error(seen)
	}
}

func TestMixStokesTold(t *testing.T) {
	holdMixed(t, "none", nil, impl.StokesResult{})
	holdMixed(t, "none", []impl.Stokes{}, impl.StokesResult{})
	if got := impl.MixStokes(nil); got != (impl.StokesResult{}) {
		t.Error("nil", got)
	}
	holdMixed(t, "one", []impl.Stokes{{I: 3, Q: 1, U: 2, V: -2}}, toldStokes(3, 1, 2, -2))
	holdMixed(t, "opposite", []impl.Stokes{{I: 3, Q: 1, U: 2, V: -2}, {I: 3, Q: -1, U: -2, V: 2}}, toldStokes(6, 0, 0, 0))
	holdMixed(t, "three", []impl.Stokes{{I: 10, Q: 1}, {I: 20, U: 2}, {I: 30, Q: -5, V: 3}}, toldStokes(60, -4, 2, 3))
	holdMixed(t, "dark", slices.Repeat([]impl.Stokes{{}}, 100), impl.StokesResult{})
}

func TestNumbersOfMixedLights(t *testing.T) {
	one := impl.Stokes{I: 5, Q: 3, U: -4, V: 0}
	for _, count := range []int{1, 2, 50, 99, 100} {
		n := int64(count)
		holdMixed(t, "as many", slices.Repeat([]impl.Stokes{one}, count), toldStokes(5*n, 3*n, -4*n, 0))
	}
	for _, count := range []int{101, 102, 1000} {
		holdMixed(t, "too many", slices.Repeat([]impl.Stokes{one}, count), noStokes(impl.ErrMany))
		holdMixed(t, "too many, dark", make([]impl.Stokes, count), noStokes(impl.ErrMany))
		holdMixed(t, "too many, too bright", slices.Repeat([]impl.Stokes{{I: 2000000000}}, count), noStokes(impl.ErrMany))
		for _, wrong := range []impl.Stokes{{I: -1}, {I: 2000000001}, {V: math.MinInt64}} {
			for _, at := range []int{0, 50, 100, count - 1} {
				list := slices.Repeat([]impl.Stokes{one}, count)
				list[at] = wrong
				holdMixed(t, "too many, one wrong", list, noStokes(impl.ErrMany))
			}
		}
	}
	behind := slices.Repeat([]impl.Stokes{one}, 101)
	if got := impl.MixStokes(behind[:100]); got != toldStokes(500, 300, -400, 0) {
		t.Error("more behind the end", got)
	}
}

func TestMixesWithWrongLights(t *testing.T) {
	far, untrue, fine := farStokes(), falseStokes(), impl.Stokes{I: 5, Q: 3, U: -4}
	for _, wrong := range append(slices.Clone(far), untrue...) {
		want := noStokes(stokesCode(wrong))
		holdMixed(t, "alone", []impl.Stokes{wrong}, want)
		for _, count := range []int{2, 3, 100} {
			for _, at := range []int{0, count / 2, count - 1} {
				list := slices.Repeat([]impl.Stokes{fine}, count)
				list[at] = wrong
				holdMixed(t, "one wrong", list, want)
			}
		}
		// A light's own fault is told ahead of the sums, though they would be out of bounds ahead of it.
		holdMixed(t, "behind a sum out of bounds", []impl.Stokes{{I: 2000000000}, {I: 2000000000}, wrong}, want)
		holdMixed(t, "ahead of a sum out of bounds", []impl.Stokes{wrong, {I: 2000000000}, {I: 2000000000}}, want)
	}
	// Of two wrong lights the first one is told, whichever its code is.
	for _, a := range far {
		for _, b := range untrue {
			holdMixed(t, "far, then false", []impl.Stokes{a, b}, noStokes(impl.ErrRange))
			holdMixed(t, "false, then far", []impl.Stokes{b, a}, noStokes(impl.ErrForm))
			holdMixed(t, "fine, false, far", []impl.Stokes{fine, b, fine, a}, noStokes(impl.ErrForm))
		}
	}
	// What two wrong lights give together might be right.
	holdMixed(t, "false ones", []impl.Stokes{{I: 1, Q: 2}, {I: 3, Q: -2}}, noStokes(impl.ErrForm))
	holdMixed(t, "false ones", []impl.Stokes{{I: 3, Q: -2}, {I: 1, Q: 2}}, noStokes(impl.ErrForm))
	holdMixed(t, "far ones", []impl.Stokes{{I: 2000000001}, {I: -1}}, noStokes(impl.ErrRange))
}

func TestSumsOfMixedLightsAtTheBounds(t *testing.T) {
	const most = 2000000000
	beyond := noStokes(impl.ErrRange)
	holdMixed(t, "I at its bound", []impl.Stokes{{I: most - 1}, {I: 1}}, toldStokes(most, 0, 0, 0))
	holdMixed(t, "I beyond", []impl.Stokes{{I: most}, {I: 1}}, beyond)
	holdMixed(t, "I beyond", []impl.Stokes{{I: 1}, {I: most}}, beyond)
	holdMixed(t, "I at its bound, polarised", []impl.Stokes{{I: most - 3, Q: 3 - most}, {I: 3, Q: -1, U: 2, V: 2}}, toldStokes(most, 2-most, 2, 2))
	holdMixed(t, "all beyond", []impl.Stokes{{I: most, Q: most}, {I: 1, Q: 1}}, beyond)
	holdMixed(t, "all beyond", []impl.Stokes{{I: most, V: -most}, {I: most, V: -most}}, beyond)
	holdMixed(t, "I alone beyond", []impl.Stokes{{I: most, U: most}, {I: most, U: -most}}, beyond)
	holdMixed(t, "dark ones beside it", []impl.Stokes{{}, {I: most, V: most}, {}}, toldStokes(most, 0, 0, most))
	hundred := slices.Repeat([]impl.Stokes{{I: most / 100, U: -most / 100}}, 100)
	holdMixed(t, "a hundred", hundred, toldStokes(most, 0, -most, 0))
	hundred[37].I++
	holdMixed(t, "a hundred and one more", hundred, beyond)
	// Sums that would come back within 32 or 64 bits.
	holdMixed(t, "a hundred of the greatest", slices.Repeat([]impl.Stokes{{I: most, Q: most}}, 100), beyond)
	holdMixed(t, "three of the greatest", slices.Repeat([]impl.Stokes{{I: most}}, 3), beyond)
}

// TestMixedLightsHaveNoOrder: mixed in any order, and in parts, they are the same light.
func TestMixedLightsHaveNoOrder(t *testing.T) {
	draw, seen := numbers{state: 1313}, map[int64]int{}
	for range 1000 {
		list := []impl.Stokes{}
		for range draw.below(12) {
			list = append(list, drawnStokes(&draw, []int64{10, 1000000, 400000000, 2000000000}[draw.below(4)]))
		}
		want := mixStokesByWords(list)
		seen[want.Code]++
		holdMixed(t, "drawn", list, want)
		other := slices.Clone(list)
		for i := range other {
			j := i + int(draw.below(int64(len(other)-i)))
			other[i], other[j] = other[j], other[i]
		}
		holdMixed(t, "in another order", other, want)
		if want.Code != impl.OK {
			continue
		}
		if impl.StokesFault(want.Stokes) != impl.OK {
			t.Errorf("%v has a fault", want)
		}
		cut := int(draw.below(int64(len(list) + 1)))
		holdMixed(t, "in parts", []impl.Stokes{impl.MixStokes(list[:cut]).Stokes, impl.MixStokes(list[cut:]).Stokes}, want)
	}
	if seen[impl.OK] < 200 || seen[impl.ErrRange] < 200 {
		t.Error(seen)
	}
}
