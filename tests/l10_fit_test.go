package tests

import (
	"math"
	"slices"
	"testing"

	"loop.example/g00049/impl"
)

// fitEquationsByWords are the rows and the right side that a fit solves.
func fitEquationsByWords(list []impl.Sample, degree int64) ([][]float64, []float64) {
	count := termsUpTo(degree)
	rows, right := diagonalFloats(count, 0), make([]float64, count)
	for _, s := range list {
		terms := termsByWords(degree, s.X, s.Y)
		for i := range terms {
			for j := range terms {
				rows[i][j] = onceSum(rows[i][j], onceProduct(terms[i], terms[j]))
			}
			right[i] = onceSum(right[i], onceProduct(terms[i], s.W))
		}
	}
	return rows, right
}

// missesByWords are the squares of what a fit misses.
func missesByWords(list []impl.Sample, degree int64, fit []float64) []float64 {
	squares := []float64{}
	for _, s := range list {
		miss := onceSum(s.W, -pupilByWords(fit, degree, s.X, s.Y))
		squares = append(squares, onceProduct(miss, miss))
	}
	return squares
}

func fitByWords(list []impl.Sample, degree int64) impl.FitResult {
	if degree < 0 || degree > 5 {
		return unfitted(impl.ErrForm)
	}
	if len(list) > 400 {
		return unfitted(impl.ErrMany)
	}
	if len(list) < termsUpTo(degree) {
		return unfitted(impl.ErrNone)
	}
	solved := floatsSolvedByWords(fitEquationsByWords(list, degree))
	if solved.Code != impl.OK {
		return unfitted(solved.Code)
	}
	return impl.FitResult{List: solved.List, Rms: math.Sqrt(meanByWords(missesByWords(list, degree, solved.List)))}
}

func unfitted(code int64) impl.FitResult {
	return impl.FitResult{Code: code}
}

func fitted(rms float64, list ...float64) impl.FitResult {
	return impl.FitResult{List: list, Rms: rms}
}

func sameFit(a impl.FitResult, b impl.FitResult) bool {
	return a.Code == b.Code && sameFloats(a.List, b.List) && sameFloat(a.Rms, b.Rms)
}

func bitsOfSamples(list []impl.Sample) []uint64 {
	bits := []uint64{}
	for _, s := range list[:cap(list)] {
		bits = append(bits, math.Float64bits(s.X), math.Float64bits(s.Y), math.Float64bits(s.W))
	}
	return bits
}

// holdFit asks twice, for answers in memory of their own, and looks whether the samples are left alone.
func holdFit(t *testing.T, what string, list []impl.Sample, degree int64, want impl.FitResult) {
	t.Helper()
	kept := bitsOfSamples(list)
	got, again := impl.FitPupil(list, degree), impl.FitPupil(list, degree)
	if !sameFit(got, want) || !sameFit(again, want) {
		t.Errorf("%s: FitPupil(%s, %d) = %s, then %s, want %s", what, brief(list), degree, brief(got), brief(again), brief(want))
	}
	if !slices.Equal(kept, bitsOfSamples(list)) {
		t.Errorf("%s: FitPupil changes its samples", what)
	}
	apart(t, [][]float64{got.List}, [][]float64{again.List})
}

func holdFitByWords(t *testing.T, what string, list []impl.Sample, degree int64) impl.FitResult {
	t.Helper()
	want := fitByWords(list, degree)
	holdFit(t, what, list, degree, want)
	return want
}

func drawnSamples(draw *numbers, count int) []impl.Sample {
	list := []impl.Sample{}
	for range count {
		list = append(list, impl.Sample{X: aroundNought(draw, 1), Y: aroundNought(draw, 1), W: aroundNought(draw, 5)})
	}
	return list
}

// gridSamples stand at whole places around 0; W is told by them.
func gridSamples(reach int, told func(x float64, y float64) float64) []impl.Sample {
	list := []impl.Sample{}
	for row := -reach; row <= reach; row++ {
		for column := -reach; column <= reach; column++ {
			x, y := float64(column), float64(row)
			list = append(list, impl.Sample{X: x, Y: y, W: told(x, y)})
		}
	}
	return list
}

func TestFitPupilHowMany(t *testing.T) {
	draw := numbers{state: 1031}
	for degree := range int64(6) {
		count := termsUpTo(degree)
		for fewer := range count {
			holdFit(t, "too few", drawnSamples(&draw, fewer), degree, unfitted(impl.ErrNone))
		}
		holdFit(t, "none", nil, degree, unfitted(impl.ErrNone))
		holdFit(t, "none", []impl.Sample{}, degree, unfitted(impl.ErrNone))
		holdFit(t, "room behind", drawnSamples(&draw, count)[:count-1], degree, unfitted(impl.ErrNone))
		for more := range 3 {
			list := roomy(drawnSamples(&draw, count+more), impl.Sample{X: 9, Y: 9, W: 9})
			if got := holdFitByWords(t, "enough", list, degree); got.Code != impl.OK || len(got.List) != count {
				t.Error(got)
			}
		}
		for _, many := range []int{401, 402, 1000} {
			holdFit(t, "too many", drawnSamples(&draw, many), degree, unfitted(impl.ErrMany))
			holdFit(t, "too many, all alike", make([]impl.Sample, many), degree, unfitted(impl.ErrMany))
		}
	}
	for _, degree := range []int64{0, 1, 2, 5} {
		if got := holdFitByWords(t, "just so many", drawnSamples(&draw, 401)[:400], degree); got.Code != impl.OK {
			t.Error(got)
		}
	}
	for _, degree := range wrongDegrees() {
		for _, count := range []int{0, 1, 21, 22, 400, 401, 1000} {
			holdFit(t, "no degree", drawnSamples(&draw, count), degree, unfitted(impl.ErrForm))
		}
		holdFit(t, "no degree", nil, degree, unfitted(impl.ErrForm))
	}
}

func TestFitPupilTold(t *testing.T) {
	at := func(x float64, y float64, w float64) impl.Sample { return impl.Sample{X: x, Y: y, W: w} }
	holdFit(t, "one", []impl.Sample{at(3, 4, 5)}, 0, fitted(0, 5))
	holdFit(t, "mean", []impl.Sample{at(3, 4, 1), at(-1, 7, 3)}, 0, fitted(1, 2))
	holdFit(t, "mean", []impl.Sample{at(0, 0, 4), at(0, 0, 4), at(0, 0, -8), at(0, 0, 8)}, 0, fitted(6, 2))
	three := holdFitByWords(t, "three", []impl.Sample{at(0, 0, 1), at(1, 0, 3), at(0, 1, 6)}, 1)
	if !slices.EqualFunc(three.List, []float64{1, 2, 5}, near) || three.Rms > 1e-9 {
		t.Error(three)
	}
	// Of four samples around 0 all is whole, or a power of two.
	cross := []impl.Sample{at(1, 0, 7), at(-1, 0, 3), at(0, 1, 9), at(0, -1, 1)}
	holdFit(t, "cross", cross, 1, fitted(0, 5, 2, 4))
	cross[0].W, cross[1].W = 9, 5
	holdFit(t, "bent", cross, 1, fitted(1, 6, 2, 4))
	corners := []impl.Sample{at(1, 1, 4), at(-1, 1, 0), at(-1, -1, 0), at(1, -1, 0)}
	holdFit(t, "corners", corners, 1, fitted(1, 1, 1, 1))
	// Nothing is rounded here, so that the samples' order says nothing, nor that each is told twice.
	slices.Reverse(corners)
	holdFit(t, "corners", corners, 1, fitted(1, 1, 1, 1))
	holdFit(t, "corners twice", append(corners, corners...), 1, fitted(1, 1, 1, 1))
}

func TestFitPupilWithoutASolution(t *testing.T) {
	none := unfitted(impl.ErrNone)
	for degree := int64(1); degree <= 5; degree++ {
		count := termsUpTo(degree)
		for _, more := range []int{0, 1, 5} {
			holdFit(t, "all at one place", slices.Repeat([]impl.Sample{{W: 3}}, count+more), degree, none)
			holdFit(t, "all at one place", slices.Repeat([]impl.Sample{{X: 1, Y: 1, W: 3}}, count+more), degree, none)
			alongX, alongY := []impl.Sample{}, []impl.Sample{}
			for i := range count + more {
				alongX = append(alongX, impl.Sample{X: float64(i) / 4, W: float64(i)})
				alongY = append(alongY, impl.Sample{Y: float64(i) / 4, W: float64(i)})
			}
			holdFit(t, "on a line", alongX, degree, none)
			holdFit(t, "on a line", alongY, degree, none)
		}
		holdFit(t, "all at one place", slices.Repeat([]impl.Sample{{X: 0.5, Y: -0.5, W: 3}}, count), degree, none)
	}
	holdFit(t, "a circle", []impl.Sample{{X: 1}, {X: -1}, {Y: 1}, {Y: -1}, {X: 1}, {X: -1}}, 2, none)
}

func TestFitPupilWithoutBounds(t *testing.T) {
	inf, nan := math.Inf(1), math.NaN()
	five := func(s impl.Sample) []impl.Sample {
		return []impl.Sample{{X: 1, W: 7}, {X: -1, W: 3}, s, {Y: 1, W: 9}, {Y: -1, W: 1}}
	}
	for _, place := range []float64{inf, -inf, nan, 1e308, 1e200} {
		// A degree of 0 does not look where a sample stands.
		holdFit(t, "far", five(impl.Sample{X: place, W: 5}), 0, fitted(math.Sqrt(8), 5))
		holdFit(t, "far", five(impl.Sample{Y: place, W: 5}), 0, fitted(math.Sqrt(8), 5))
	}
	for _, place := range []float64{inf, -inf, nan} {
		holdFit(t, "far", five(impl.Sample{X: place, W: 5}), 1, unfitted(impl.ErrNone))
		holdFit(t, "far", five(impl.Sample{Y: place, W: 5}), 1, unfitted(impl.ErrNone))
		holdFit(t, "W", five(impl.Sample{W: place}), 0, fitted(nan, place))
		holdFit(t, "W", five(impl.Sample{W: place}), 1, fitByWords(five(impl.Sample{W: place}), 1))
	}
	holdFit(t, "W", five(impl.Sample{W: nan}), 1, fitted(nan, nan, nan, nan))
	holdFit(t, "great", []impl.Sample{{W: 1e308}, {W: 1e308}}, 0, fitted(inf, inf))
	holdFit(t, "great", []impl.Sample{{W: 1e200}, {W: -1e200}}, 0, fitted(inf, 0))
	holdFit(t, "noughts", []impl.Sample{{W: nought()}, {W: nought()}}, 0, fitted(0, 0))
	draw := numbers{state: 1032}
	seen := map[int64]int{}
	for range 3000 {
		degree := draw.below(3)
		list := []impl.Sample{}
		for range termsUpTo(degree) + int(draw.below(3)) {
			s := impl.Sample{X: aroundNought(&draw, 1), Y: aroundNought(&draw, 1), W: drawnEdge(&draw)}
			if draw.below(8) == 0 {
				s.X = drawnEdge(&draw)
			}
			if draw.below(8) == 0 {
				s.Y = drawnEdge(&draw)
			}
			list = append(list, s)
		}
		seen[holdFitByWords(t, "edges", list, degree).Code]++
	}
	if seen[impl.OK] < 1000 || seen[impl.ErrNone] < 200 {
		t.Error(seen)
	}
}

// TestFitDrawnSamples counts how often sums in another order, and the root ahead of the quotient, would be seen.
func TestFitDrawnSamples(t *testing.T) {
	draw := numbers{state: 1033}
	back, rootFirst, squaresBack := 0, 0, 0
	for degree := range int64(6) {
		for range 30 - 4*degree {
			count := termsUpTo(degree) + int(draw.below(40))
			list := drawnSamples(&draw, count)
			want := holdFitByWords(t, "drawn", list, degree)
			if want.Code != impl.OK {
				t.Error(degree, want)
			}
			squares := missesByWords(list, degree, want.List)
			if !sameFloat(math.Sqrt(sumByWords(squares))/math.Sqrt(float64(count)), want.Rms) {
				rootFirst++
			}
			slices.Reverse(squares)
			if !sameFloat(math.Sqrt(meanByWords(squares)), want.Rms) {
				squaresBack++
			}
			slices.Reverse(list)
			if other := impl.FitPupil(list, degree); !sameFloats(other.List, want.List) {
				back++
			}
		}
	}
	if back < 50 || rootFirst < 20 || squaresBack < 20 {
		t.Error(back, rootFirst, squaresBack)
	}
}

// TestFitFindsItsPolynomial: samples of a polynomial with whole numbers lead back to it.
func TestFitFindsItsPolynomial(t *testing.T) {
	draw := numbers{state: 1034}
	for range 60 {
		degree := draw.below(6)
		wave := []float64{}
		for range termsUpTo(degree) {
			wave = append(wave, float64(draw.below(19)-9))
		}
		list := gridSamples(3, func(x float64, y float64) float64 { return impl.PupilAt(wave, degree, x/2, y/2) })
		for i := range list {
			list[i].X, list[i].Y = list[i].X/2, list[i].Y/2
		}
		got := impl.FitPupil(list, degree)
		if got.Code != impl.OK || !slices.EqualFunc(got.List, wave, near) || got.Rms > 1e-9 {
			t.Errorf("degree %d: %v, want about %v", degree, got, wave)
		}
		// What is added to all samples is added to the first number alone.
		for i := range list {
			list[i].W += 3
		}
		wave[0] += 3
		if moved := impl.FitPupil(list, degree); !slices.EqualFunc(moved.List, wave, near) {
			t.Errorf("degree %d: %v, want about %v", degree, moved, wave)
		}
	}
}

// TestFitMissesLeast: any other polynomial near the one that is told misses by more.
func TestFitMissesLeast(t *testing.T) {
	draw := numbers{state: 1035}
	for degree := range int64(4) {
		list := drawnSamples(&draw, 40)
		got := impl.FitPupil(list, degree)
		for place := range got.List {
			for _, by := range []float64{0.01, -0.01} {
				other := slices.Clone(got.List)
				other[place] += by
				if rms := math.Sqrt(meanByWords(missesByWords(list, degree, other))); rms <= got.Rms {
					t.Errorf("degree %d: %v misses %v, not %v", degree, other, rms, got.Rms)
				}
			}
		}
	}
}
