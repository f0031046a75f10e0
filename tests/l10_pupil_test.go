package tests

import (
	"math"
	"slices"
	"testing"

	"loop.example/g00049/impl"
)

// exponentsInOrder are those of x and y, of each term up to degree 5.
func exponentsInOrder() [][2]int {
	return [][2]int{
		{0, 0},
		{1, 0}, {0, 1},
		{2, 0}, {1, 1}, {0, 2},
		{3, 0}, {2, 1}, {1, 2}, {0, 3},
		{4, 0}, {3, 1}, {2, 2}, {1, 3}, {0, 4},
		{5, 0}, {4, 1}, {3, 2}, {2, 3}, {1, 4}, {0, 5},
	}
}

// termsUpTo are how many terms there are of degrees from 0 to 5.
func termsUpTo(degree int64) int {
	return []int{1, 3, 6, 10, 15, 21}[degree]
}

// wrongDegrees are outside of 0 to 5.
func wrongDegrees() []int64 {
	return []int64{-1, 6, -2, 7, 21, 100, math.MinInt64, math.MaxInt64, math.MaxInt64 - 1, 1 << 32, -1 << 32}
}

// powerOfFloat is 1 multiplied so often, in turn.
func powerOfFloat(f float64, times int) float64 {
	power := 1.0
	for range times {
		power = onceProduct(power, f)
	}
	return power
}

func termsByWords(degree int64, x float64, y float64) []float64 {
	if degree < 0 || degree > 5 {
		return nil
	}
	list := []float64{}
	for _, e := range exponentsInOrder()[:termsUpTo(degree)] {
		list = append(list, onceProduct(powerOfFloat(x, e[0]), powerOfFloat(y, e[1])))
	}
	return list
}

// holdTerms asks twice, for answers in memory of their own.
func holdTerms(t *testing.T, what string, degree int64, x float64, y float64, want []float64) {
	t.Helper()
	got, again := impl.PupilTerms(degree, x, y), impl.PupilTerms(degree, x, y)
	if !sameFloats(got, want) || !sameFloats(again, want) {
		t.Errorf("%s: PupilTerms(%d, %v, %v) = %v, then %v, want %v", what, degree, x, y, got, again, want)
	}
	apart(t, [][]float64{got}, [][]float64{again})
}

func TestPupilTermsTold(t *testing.T) {
	all := []float64{1, 2, 3, 4, 6, 9, 8, 12, 18, 27, 16, 24, 36, 54, 81, 32, 48, 72, 108, 162, 243}
	for degree := range int64(6) {
		holdTerms(t, "told", degree, 2, 3, all[:termsUpTo(degree)])
	}
	holdTerms(t, "below 0", 3, -2, 3, []float64{1, -2, 3, 4, -6, 9, -8, 12, -18, 27})
	holdTerms(t, "below 0", 3, 2, -3, []float64{1, 2, -3, 4, -6, 9, 8, -12, 18, -27})
	holdTerms(t, "below 0", 2, -2, -3, []float64{1, -2, -3, 4, 6, 9})
	for _, degree := range wrongDegrees() {
		holdTerms(t, "no degree", degree, 2, 3, nil)
		holdTerms(t, "no degree", degree, math.NaN(), math.Inf(1), nil)
	}
}

func TestPupilTermsOfNoughts(t *testing.T) {
	n := nought()
	holdTerms(t, "noughts", 3, 0, 0, []float64{1, 0, 0, 0, 0, 0, 0, 0, 0, 0})
	holdTerms(t, "noughts", 3, n, 0, []float64{1, n, 0, 0, n, 0, n, 0, n, 0})
	holdTerms(t, "noughts", 3, 0, n, []float64{1, 0, n, 0, n, 0, 0, n, 0, n})
	holdTerms(t, "noughts", 2, n, n, []float64{1, n, n, 0, 0, 0})
	holdTerms(t, "noughts", 2, n, 3, []float64{1, n, 3, 0, n, 9})
	holdTerms(t, "noughts", 2, -3, 0, []float64{1, -3, 0, 9, n, 0})
}

func TestPupilTermsWithoutBounds(t *testing.T) {
	inf, nan := math.Inf(1), math.NaN()
	// A power of 0 is 1, whatever it is of.
	holdTerms(t, "NaN", 2, nan, 3, []float64{1, nan, 3, nan, nan, 9})
	holdTerms(t, "NaN", 2, 3, nan, []float64{1, 3, nan, 9, nan, nan})
	holdTerms(t, "NaN", 0, nan, nan, []float64{1})
	holdTerms(t, "infinite", 2, inf, -3, []float64{1, inf, -3, inf, -inf, 9})
	holdTerms(t, "infinite", 2, -inf, -inf, []float64{1, -inf, -inf, inf, inf, inf})
	holdTerms(t, "infinite", 2, inf, 0, []float64{1, inf, 0, inf, nan, 0})
	// The powers have no bounds here, though the product has.
	holdTerms(t, "great", 3, 1e200, 1e-200, []float64{1, 1e200, 1e-200, inf, onceProduct(1e200, 1e-200), 0, inf, inf, 0, 0})
	holdTerms(t, "great", 3, 1e-200, 1e200, []float64{1, 1e-200, 1e200, 0, onceProduct(1e200, 1e-200), inf, 0, 0, inf, inf})
	holdTerms(t, "great", 4, 0x1p512, 0x1p-537, append(termsByWords(3, 0x1p512, 0x1p-537), inf, inf, inf, 0, 0))
	holdTerms(t, "great", 4, 0x1p512, 0x1p-538, append(termsByWords(3, 0x1p512, 0x1p-538), inf, inf, nan, 0, 0))
}

// TestPupilTermsOneByOne counts how often powers that are made otherwise would be seen.
func TestPupilTermsOneByOne(t *testing.T) {
	draw := numbers{state: 1021}
	squared, run, halves := 0, 0, 0
	for range 3000 {
		x, y := aroundNought(&draw, 2), aroundNought(&draw, 2)
		degree := draw.below(6)
		want := termsByWords(degree, x, y)
		holdTerms(t, "drawn", degree, x, y, want)
		if degree < 5 {
			continue
		}
		if float64(x*x)*float64(x*x) != want[10] {
			squared++
		}
		// x x times y, then y again, is not x x times y y.
		if x*x*y*y != want[12] {
			run++
		}
		if x*(x*x*y*y) != want[17] {
			halves++
		}
	}
	if squared < 50 || run < 50 || halves < 50 {
		t.Error(squared, run, halves)
	}
	for _, x := range anyFloats() {
		for i, y := range edgeFloats() {
			holdTerms(t, "edges", int64(i%6), x, y, termsByWords(int64(i%6), x, y))
			holdTerms(t, "edges", 5, y, x, termsByWords(5, y, x))
		}
	}
}

// TestPupilTermsBeginAlike: the terms of a lesser degree are the first ones; x and y changed about, each degree's go back.
func TestPupilTermsBeginAlike(t *testing.T) {
	draw := numbers{state: 1022}
	for range 300 {
		x, y := aroundNought(&draw, 3), aroundNought(&draw, 3)
		all := impl.PupilTerms(5, x, y)
		swapped := []float64{}
		for degree := range int64(6) {
			holdTerms(t, "first ones", degree, x, y, all[:termsUpTo(degree)])
			part := slices.Clone(all[termsUpTo(degree)-int(degree)-1 : termsUpTo(degree)])
			slices.Reverse(part)
			swapped = append(swapped, part...)
		}
		holdTerms(t, "changed about", 5, y, x, swapped)
	}
}

func pupilByWords(list []float64, degree int64, x float64, y float64) float64 {
	terms, sum := termsByWords(degree, x, y), 0.0
	for i := 0; i < len(list) && i < len(terms); i++ {
		sum = onceSum(sum, onceProduct(list[i], terms[i]))
	}
	return sum
}

func holdPupil(t *testing.T, what string, list []float64, degree int64, x float64, y float64, want float64) {
	t.Helper()
	kept := bitsOfList(list[:cap(list)])
	for range 2 {
		if got := impl.PupilAt(list, degree, x, y); !sameFloat(got, want) {
			t.Errorf("%s: PupilAt(%v, %d, %v, %v) = %v, want %v", what, list, degree, x, y, got, want)
		}
	}
	if !slices.Equal(kept, bitsOfList(list[:cap(list)])) {
		t.Errorf("%s: PupilAt changes its list", what)
	}
}

func TestPupilAtTold(t *testing.T) {
	all := []float64{1, 2, 3, 4, 6, 9, 8, 12, 18, 27, 16, 24, 36, 54, 81, 32, 48, 72, 108, 162, 243}
	for degree := range int64(6) {
		for place := range 23 {
			// One number of the list is 1, so that one term is told.
			list := make([]float64, 23)
			list[place] = 1
			want := 0.0
			if place < termsUpTo(degree) {
				want = all[place]
			}
			holdPupil(t, "one term", list, degree, 2, 3, want)
			holdPupil(t, "a list that ends there", roomy(list[:place], 7), degree, 2, 3, 0)
			holdPupil(t, "a list that ends behind it", roomy(list[:place+1], 7), degree, 2, 3, want)
		}
	}
	holdPupil(t, "told", []float64{1, -2, 3}, 1, 5, 7, 12)
	holdPupil(t, "shorter", []float64{1, -2}, 1, 5, 7, -9)
	holdPupil(t, "longer", []float64{1, -2, 3, math.NaN()}, 1, 5, 7, 12)
	holdPupil(t, "longer", append([]float64{4}, slices.Repeat([]float64{math.Inf(1)}, 500)...), 0, 5, 7, 4)
	for _, degree := range []int64{0, 1, 5, -1, 6} {
		holdPupil(t, "empty", nil, degree, 5, 7, 0)
		holdPupil(t, "empty", []float64{}, degree, math.NaN(), math.Inf(1), 0)
		holdPupil(t, "empty", []float64{1, 2, 3}[:0], degree, 5, 7, 0)
	}
	for _, degree := range wrongDegrees() {
		holdPupil(t, "no degree", all, degree, 2, 3, 0)
		holdPupil(t, "no degree", []float64{math.NaN()}, degree, 2, 3, 0)
	}
}

func TestPupilAtNoughtsAndWithoutBounds(t *testing.T) {
	n, inf, nan := nought(), math.Inf(1), math.NaN()
	holdPupil(t, "from +0 on", []float64{n}, 0, 2, 3, 0)
	holdPupil(t, "from +0 on", []float64{n, n, n}, 1, 2, 3, 0)
	holdPupil(t, "from +0 on", []float64{0, 5}, 1, n, 3, 0)
	holdPupil(t, "NaN", []float64{nan}, 0, 2, 3, nan)
	holdPupil(t, "NaN", []float64{1, 0}, 1, nan, 3, nan)
	holdPupil(t, "NaN, not so far", []float64{1}, 1, nan, nan, 1)
	holdPupil(t, "infinite", []float64{1, 2}, 1, inf, 3, inf)
	holdPupil(t, "infinite", []float64{1, 0}, 1, inf, 3, nan)
	holdPupil(t, "infinite", []float64{inf, inf, 1}, 1, -1, 3, nan)
	holdPupil(t, "too great", []float64{1e308, 1e308, -1e308}, 1, 1, 1, inf)
	holdPupil(t, "in order", []float64{1, 1e16, -1e16}, 1, 1, 1, 0)
	holdPupil(t, "in order", []float64{1e16, -1e16, 1}, 1, 1, 1, 1)
	holdPupil(t, "in order", []float64{1e16, 1, -1e16}, 1, 1, 1, 0)
}

func TestPupilAtDrawn(t *testing.T) {
	draw := numbers{state: 1023}
	fused, back := 0, 0
	for range 3000 {
		list := drawnFloats(&draw, int(draw.below(24)), 5)
		degree, x, y := draw.below(6), aroundNought(&draw, 2), aroundNought(&draw, 2)
		want := pupilByWords(list, degree, x, y)
		holdPupil(t, "drawn", list, degree, x, y, want)
		terms, sum, other := impl.PupilTerms(degree, x, y), 0.0, 0.0
		for i := range min(len(list), len(terms)) {
			sum = math.FMA(list[i], terms[i], sum)
			from := min(len(list), len(terms)) - 1 - i
			other += float64(list[from] * terms[from])
		}
		if sum != want {
			fused++
		}
		if other != want {
			back++
		}
	}
	if fused < 500 || back < 500 {
		t.Error(fused, back)
	}
	for range 5000 {
		list := []float64{}
		for range draw.below(8) {
			list = append(list, drawnEdge(&draw))
		}
		degree, x, y := draw.below(8)-1, drawnEdge(&draw), drawnEdge(&draw)
		holdPupil(t, "edges", list, degree, x, y, pupilByWords(list, degree, x, y))
	}
}
