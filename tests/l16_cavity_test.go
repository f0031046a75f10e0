package tests

import (
	"math/big"
	"slices"
	"testing"

	"loop.example/g00049/impl"
)

func noCavity(code int64) impl.CavityResult {
	return impl.CavityResult{Code: code}
}

func toldCavity(first impl.Frac, second impl.Frac, half impl.Frac, stable bool) impl.CavityResult {
	return impl.CavityResult{First: first, Second: second, Half: half, Stable: stable}
}

// mirrorByWords is 1 less length / radius, in two steps.
func mirrorByWords(s *exactSteps, length impl.Frac, radius impl.Frac) *big.Rat {
	if radius.Num == 0 {
		return big.NewRat(1, 1)
	}
	quotient := s.by(ratOf(length), ratOf(radius))
	return s.less(big.NewRat(1, 1), quotient)
}

// cavityByWords goes step by step over big fractions, and tells at which step one left its bounds.
func cavityByWords(length impl.Frac, first impl.Frac, second impl.Frac) (impl.CavityResult, int) {
	if !noneWrong(length, first, second) || length.Num < 1 {
		return noCavity(impl.ErrForm), 0
	}
	s := exactSteps{}
	one, two := mirrorByWords(&s, length, first), mirrorByWords(&s, length, second)
	product := s.mul(one, two)
	half := s.less(s.add(product, product), big.NewRat(1, 1))
	if s.left > 0 {
		return noCavity(impl.ErrRange), s.left
	}
	stable := product.Sign() >= 0 && product.Cmp(big.NewRat(1, 1)) <= 0
	return toldCavity(toldOf(one).Frac, toldOf(two).Frac, toldOf(half).Frac, stable), 0
}

func tripByWords(length impl.Frac, first impl.Frac, second impl.Frac) impl.PartList {
	if !noneWrong(length, first, second) || length.Num < 1 {
		return partsStuck(impl.ErrForm)
	}
	list := []impl.Part{}
	for _, radius := range []impl.Frac{second, first} {
		power := toldOf(new(big.Rat))
		if radius.Num != 0 {
			power = toldOf(new(big.Rat).Quo(big.NewRat(2, 1), ratOf(radius)))
		}
		if power.Code != impl.OK {
			return partsStuck(impl.ErrRange)
		}
		list = append(list, gapOf(length.Num, length.Den), powerOf(power.Frac.Num, power.Frac.Den))
	}
	return impl.PartList{List: list}
}

func holdCavity(t *testing.T, what string, length impl.Frac, first impl.Frac, second impl.Frac, want impl.CavityResult) {
	t.Helper()
	for range 2 {
		if got := impl.CavityOf(length, first, second); got != want {
			t.Errorf("%s: CavityOf(%v, %v, %v) = %v, want %v", what, length, first, second, got, want)
		}
	}
}

// holdTrip asks twice, and writes over the first answer ahead of looking at the second.
func holdTrip(t *testing.T, what string, length impl.Frac, first impl.Frac, second impl.Frac, want impl.PartList) {
	t.Helper()
	got, again := impl.TripOf(length, first, second), impl.TripOf(length, first, second)
	if got.Code != want.Code || !slices.Equal(got.List, want.List) {
		t.Errorf("%s: TripOf(%v, %v, %v) = %v, want %v", what, length, first, second, got, want)
	}
	for i := range got.List[:cap(got.List)] {
		got.List[:cap(got.List)][i] = gapOf(77, 7)
	}
	if again.Code != want.Code || !slices.Equal(again.List, want.List) {
		t.Errorf("%s: TripOf(%v, %v, %v) is %v when asked again, want %v", what, length, first, second, again, want)
	}
}

func wholeOf(n int64) impl.Frac {
	return frac(n, 1)
}

func TestCavityOfTold(t *testing.T) {
	plane := wholeOf(0)
	for _, one := range []struct {
		what                  string
		length, first, second impl.Frac
		want                  impl.CavityResult
	}{
		{"both plane", wholeOf(5), plane, plane, toldCavity(wholeOf(1), wholeOf(1), wholeOf(1), true)},
		{"the first plane", wholeOf(1), plane, wholeOf(4), toldCavity(wholeOf(1), frac(3, 4), frac(1, 2), true)},
		{"the second plane", wholeOf(1), wholeOf(4), plane, toldCavity(frac(3, 4), wholeOf(1), frac(1, 2), true)},
		{"one focus", wholeOf(1), wholeOf(1), wholeOf(1), toldCavity(plane, plane, wholeOf(-1), true)},
		{"one centre", wholeOf(2), wholeOf(1), wholeOf(1), toldCavity(wholeOf(-1), wholeOf(-1), wholeOf(1), true)},
		{"a half sphere", wholeOf(3), wholeOf(3), plane, toldCavity(plane, wholeOf(1), wholeOf(-1), true)},
		{"the first bent outwards", wholeOf(1), wholeOf(-2), wholeOf(3), toldCavity(frac(3, 2), frac(2, 3), wholeOf(1), true)},
		{"both bent outwards", wholeOf(1), wholeOf(-2), wholeOf(-1), toldCavity(frac(3, 2), wholeOf(2), wholeOf(5), false)},
		{"unlike signs", wholeOf(2), wholeOf(1), wholeOf(4), toldCavity(wholeOf(-1), frac(1, 2), wholeOf(-2), false)},
		{"halves", frac(1, 2), frac(3, 4), frac(5, 8), toldCavity(frac(1, 3), frac(1, 5), frac(-13, 15), true)},
		{"changed about", frac(1, 2), frac(5, 8), frac(3, 4), toldCavity(frac(1, 5), frac(1, 3), frac(-13, 15), true)},
		{"too long", wholeOf(3), wholeOf(1), wholeOf(1), toldCavity(wholeOf(-2), wholeOf(-2), wholeOf(7), false)},
		{"just above 1", wholeOf(1), wholeOf(-1000000), plane, toldCavity(frac(1000001, 1000000), wholeOf(1), frac(500001, 500000), false)},
		{"just below 1", wholeOf(1), wholeOf(1000000), plane, toldCavity(frac(999999, 1000000), wholeOf(1), frac(499999, 500000), true)},
		{"just below 0", wholeOf(1000001), wholeOf(1000000), plane, toldCavity(frac(-1, 1000000), wholeOf(1), frac(-500001, 500000), false)},
		{"just above 0", wholeOf(999999), plane, wholeOf(1000000), toldCavity(wholeOf(1), frac(1, 1000000), frac(-499999, 500000), true)},
		{"1 of unlike ones", wholeOf(1), wholeOf(-1), wholeOf(2), toldCavity(wholeOf(2), frac(1, 2), wholeOf(1), true)},
		{"1 of two below 0", wholeOf(3), wholeOf(1), wholeOf(2), toldCavity(wholeOf(-2), frac(-1, 2), wholeOf(1), true)},
		{"0 beside one below 0", wholeOf(2), wholeOf(2), wholeOf(1), toldCavity(plane, wholeOf(-1), wholeOf(-1), true)},
		{"0 beside one above 1", wholeOf(2), wholeOf(-1), wholeOf(2), toldCavity(wholeOf(3), plane, wholeOf(-1), true)},
	} {
		holdCavity(t, one.what, one.length, one.first, one.second, one.want)
	}
}

// TestCavitiesThatCannotBeReckoned: one step of each leaves the bounds, and nothing that comes later brings it back.
func TestCavitiesThatCannotBeReckoned(t *testing.T) {
	const m = impl.MaxNum
	plane := wholeOf(0)
	for _, one := range []struct {
		what                  string
		length, first, second impl.Frac
		step                  int
	}{
		{"a quotient", wholeOf(m), frac(1, 2), wholeOf(m), 1},
		{"a quotient that is too fine", frac(1, m), wholeOf(-2), plane, 1},
		{"the second quotient", wholeOf(m), wholeOf(m), frac(1, 2), 3},
		{"the second quotient alone", wholeOf(m), plane, frac(-1, 2), 1},
		{"1 less", wholeOf(m), wholeOf(-1), wholeOf(m), 2},
		{"1 less of a fine one", frac(m-1, m), wholeOf(-1), frac(m-1, m), 2},
		{"the second 1 less", wholeOf(m), wholeOf(m), wholeOf(-1), 4},
		{"the product", wholeOf(100000), wholeOf(1), wholeOf(1), 5},
		{"a product that is too fine", frac(1, 100000), wholeOf(-1), wholeOf(1), 5},
		{"the sum", wholeOf(600000001), wholeOf(1), plane, 4},
		{"a sum from which 1 would bring it back", frac(1, 599999999), wholeOf(-1), plane, 4},
		{"the sum above 0", wholeOf(500000000), plane, wholeOf(-1), 4},
		{"less 1", wholeOf(500000001), wholeOf(1), plane, 5},
		{"less 1 of a fine one", frac(900000001, 699999999), wholeOf(1), plane, 5},
	} {
		_, step := cavityByWords(one.length, one.first, one.second)
		if step != one.step {
			t.Errorf("%s: the words stop at step %d, not %d", one.what, step, one.step)
		}
		holdCavity(t, one.what, one.length, one.first, one.second, noCavity(impl.ErrRange))
	}
	// As far as it goes: the greatest numbers that can be reckoned.
	holdCavity(t, "just so", wholeOf(499999999), wholeOf(-1), plane, toldCavity(wholeOf(500000000), wholeOf(1), wholeOf(999999999), false))
	holdCavity(t, "just so below 0", wholeOf(500000000), plane, wholeOf(1), toldCavity(wholeOf(1), wholeOf(-499999999), wholeOf(-999999999), false))
	holdCavity(t, "a greatest quotient", wholeOf(m), wholeOf(1), wholeOf(m), toldCavity(wholeOf(1-m), plane, wholeOf(-1), true))
	holdCavity(t, "the greatest term", wholeOf(m-1), wholeOf(-1), wholeOf(m-1), toldCavity(wholeOf(m), plane, wholeOf(-1), true))
	holdCavity(t, "one is too great to be doubled", wholeOf(2), frac(-1, 300000000), frac(4, 1), toldCavity(wholeOf(600000001), frac(1, 2), wholeOf(600000000), false))
}

func TestCavitiesWithAFault(t *testing.T) {
	good := []impl.Frac{wholeOf(1), wholeOf(2), wholeOf(3)}
	for place := range good {
		for _, wrong := range wrongFracs() {
			given := slices.Clone(good)
			given[place] = wrong
			holdCavity(t, "not right", given[0], given[1], given[2], noCavity(impl.ErrForm))
			holdTrip(t, "not right", given[0], given[1], given[2], partsStuck(impl.ErrForm))
		}
	}
	const m = impl.MaxNum
	for _, length := range []impl.Frac{wholeOf(0), wholeOf(-1), frac(-1, 2), wholeOf(-m), frac(-1, m)} {
		for _, radius := range []impl.Frac{wholeOf(0), wholeOf(1), wholeOf(-1), frac(1, m), {}} {
			holdCavity(t, "no length", length, radius, wholeOf(1), noCavity(impl.ErrForm))
			holdCavity(t, "no length", length, wholeOf(0), radius, noCavity(impl.ErrForm))
			holdTrip(t, "no length", length, radius, wholeOf(1), partsStuck(impl.ErrForm))
			holdTrip(t, "no length", length, wholeOf(0), radius, partsStuck(impl.ErrForm))
		}
	}
	// A wrong one comes ahead of what can't be reckoned.
	holdCavity(t, "wrong behind a quotient", wholeOf(m), frac(1, m), frac(2, 4), noCavity(impl.ErrForm))
	holdCavity(t, "wrong ahead of a quotient", wholeOf(m), frac(0, 2), frac(1, m), noCavity(impl.ErrForm))
	holdTrip(t, "wrong behind a power", wholeOf(1), frac(1, m), frac(2, 4), partsStuck(impl.ErrForm))
	holdTrip(t, "wrong ahead of a power", wholeOf(1), frac(0, 2), frac(1, m), partsStuck(impl.ErrForm))
	holdTrip(t, "no length, and a power", wholeOf(0), wholeOf(1), frac(1, m), partsStuck(impl.ErrForm))
}

func TestTripOfTold(t *testing.T) {
	const m = impl.MaxNum
	plane := wholeOf(0)
	trip := func(length impl.Frac, far impl.Frac, near impl.Frac) impl.PartList {
		gap := gapOf(length.Num, length.Den)
		return impl.PartList{List: []impl.Part{gap, powerOf(far.Num, far.Den), gap, powerOf(near.Num, near.Den)}}
	}
	holdTrip(t, "both bent", wholeOf(5), wholeOf(3), wholeOf(7), trip(wholeOf(5), frac(2, 7), frac(2, 3)))
	holdTrip(t, "changed about", wholeOf(5), wholeOf(7), wholeOf(3), trip(wholeOf(5), frac(2, 3), frac(2, 7)))
	holdTrip(t, "outwards", frac(5, 3), frac(-4, 3), frac(-1, 2), trip(frac(5, 3), wholeOf(-4), frac(-3, 2)))
	holdTrip(t, "the first plane", wholeOf(1), plane, wholeOf(2), trip(wholeOf(1), wholeOf(1), plane))
	holdTrip(t, "the second plane", wholeOf(1), wholeOf(2), plane, trip(wholeOf(1), plane, wholeOf(1)))
	holdTrip(t, "both plane", frac(1, m), plane, plane, trip(frac(1, m), plane, plane))
	holdTrip(t, "the least radius", wholeOf(1), frac(1, 500000000), frac(-1, 500000000), trip(wholeOf(1), wholeOf(-m), wholeOf(m)))
	holdTrip(t, "the greatest radius", wholeOf(m), wholeOf(m), wholeOf(-m), trip(wholeOf(m), frac(-1, 500000000), frac(1, 500000000)))
	for _, radius := range []impl.Frac{frac(1, 500000001), frac(-1, 500000001), frac(1, m), frac(-1, m), frac(3, 999999937), frac(-7, 999999937)} {
		for _, length := range []impl.Frac{wholeOf(1), wholeOf(m), frac(1, m)} {
			holdTrip(t, "the first can't be reckoned", length, radius, wholeOf(1), partsStuck(impl.ErrRange))
			holdTrip(t, "the second can't be reckoned", length, wholeOf(1), radius, partsStuck(impl.ErrRange))
			holdTrip(t, "neither can be reckoned", length, radius, radius, partsStuck(impl.ErrRange))
			holdTrip(t, "beside a plane one", length, plane, radius, partsStuck(impl.ErrRange))
			holdTrip(t, "beside a plane one", length, radius, plane, partsStuck(impl.ErrRange))
		}
	}
}

// holdHalf holds half the trace of the trip's matrix against the cavity's, where both can be reckoned.
func holdHalf(t *testing.T, length impl.Frac, first impl.Frac, second impl.Frac) bool {
	t.Helper()
	cavity, trip := impl.CavityOf(length, first, second), impl.TripOf(length, first, second)
	round := impl.MatrixOf(trip.List)
	if cavity.Code != impl.OK || trip.Code != impl.OK || round.Code != impl.OK {
		return false
	}
	trace := new(big.Rat).Add(ratOf(round.Matrix.A), ratOf(round.Matrix.D))
	half := trace.Mul(trace, big.NewRat(1, 2))
	if half.Cmp(ratOf(cavity.Half)) != 0 {
		t.Errorf("half the trace of a trip %v, %v, %v is %v, that of the cavity %v", length, first, second, half, cavity.Half)
	}
	if within := half.Cmp(big.NewRat(-1, 1)) >= 0 && half.Cmp(big.NewRat(1, 1)) <= 0; within != cavity.Stable {
		t.Errorf("half a trace of %v, and stable is %v (%v, %v, %v)", half, cavity.Stable, length, first, second)
	}
	return true
}

func TestCavitiesOfManyFractions(t *testing.T) {
	seen, steps := map[int64]int{}, map[int]int{}
	held, stable := 0, 0
	draw := fracsFrom(1620)
	for range 40000 {
		length, first, second := draw.frac(), draw.frac(), draw.frac()
		if draw.below(8) != 0 {
			length.Num = max(length.Num, -length.Num)
		}
		want, step := cavityByWords(length, first, second)
		holdCavity(t, "drawn", length, first, second, want)
		holdTrip(t, "drawn", length, first, second, tripByWords(length, first, second))
		if holdHalf(t, length, first, second) {
			held++
		}
		seen[want.Code]++
		steps[step]++
		if want.Stable {
			stable++
		}
	}
	if seen[impl.OK] < 1000 || seen[impl.ErrForm] < 1000 || seen[impl.ErrRange] < 1000 || held < 1000 || stable < 300 {
		t.Error(seen, held, stable)
	}
	for step := 1; step <= 5; step++ {
		if steps[step] < 10 {
			t.Error("steps", steps)
		}
	}
}

// TestEveryFractionAsAMirror: all that chapter 1's tests take, right and wrong, as each of the three.
func TestEveryFractionAsAMirror(t *testing.T) {
	all := slices.Concat(rightFracs()[:25], wrongFracs()[:10])
	for _, length := range all {
		for _, first := range all {
			for _, second := range all {
				want, _ := cavityByWords(length, first, second)
				holdCavity(t, "all", length, first, second, want)
				holdTrip(t, "all", length, first, second, tripByWords(length, first, second))
			}
		}
	}
}

// TestStableJustIfHalfIsWithinOne: small cavities on both sides of both edges, and mirrors changed about.
func TestStableJustIfHalfIsWithinOne(t *testing.T) {
	edges := map[int64]int{}
	for length := int64(1); length <= 12; length++ {
		for first := int64(-12); first <= 12; first++ {
			for second := int64(-12); second <= 12; second++ {
				if !holdHalf(t, wholeOf(length), wholeOf(first), wholeOf(second)) {
					t.Errorf("%d, %d, %d can't be reckoned", length, first, second)
				}
				cavity, about := impl.CavityOf(wholeOf(length), wholeOf(first), wholeOf(second)), impl.CavityOf(wholeOf(length), wholeOf(second), wholeOf(first))
				cavity.First, cavity.Second = cavity.Second, cavity.First
				if cavity != about {
					t.Errorf("%d, %d, %d: %v, changed about %v", length, first, second, cavity, about)
				}
				if cavity.Half == wholeOf(1) || cavity.Half == wholeOf(-1) {
					edges[cavity.Half.Num]++
				}
			}
		}
	}
	if edges[1] < 20 || edges[-1] < 20 {
		t.Error(edges)
	}
}
