package tests

import (
	"math"
	"slices"
	"testing"

	"loop.example/g00049/impl"
)

func TestSpotBounds(t *testing.T) {
	if impl.MaxDots != 400 || impl.MaxTerms != 21 {
		t.Error("bounds")
	}
}

func sameFloats(a []float64, b []float64) bool {
	return slices.EqualFunc(a, b, sameFloat)
}

// sumByWords is rounded once a number, from +0 on.
func sumByWords(list []float64) float64 {
	sum := 0.0
	for _, f := range list {
		sum = onceSum(sum, f)
	}
	return sum
}

func meanByWords(list []float64) float64 {
	return onceQuotient(sumByWords(list), float64(len(list)))
}

// numbersOf are the X and the Y of dots.
func numbersOf(list []impl.Dot) ([]float64, []float64) {
	xs, ys := []float64{}, []float64{}
	for _, d := range list {
		xs, ys = append(xs, d.X), append(ys, d.Y)
	}
	return xs, ys
}

// squaresByWords are what each dot adds to s.
func squaresByWords(list []impl.Dot, x float64, y float64) []float64 {
	squares := []float64{}
	for _, d := range list {
		a, b := onceSum(d.X, -x), onceSum(d.Y, -y)
		squares = append(squares, onceSum(onceProduct(a, a), onceProduct(b, b)))
	}
	return squares
}

func spotByWords(list []impl.Dot) impl.SpotResult {
	if len(list) > 400 {
		return impl.SpotResult{Code: impl.ErrMany}
	}
	if len(list) == 0 {
		return impl.SpotResult{Code: impl.ErrForm}
	}
	xs, ys := numbersOf(list)
	x, y := meanByWords(xs), meanByWords(ys)
	return impl.SpotResult{X: x, Y: y, Rms: math.Sqrt(meanByWords(squaresByWords(list, x, y)))}
}

func sameSpot(a impl.SpotResult, b impl.SpotResult) bool {
	return a.Code == b.Code && sameFloats([]float64{a.X, a.Y, a.Rms}, []float64{b.X, b.Y, b.Rms})
}

// bitsOfDots tell noughts and NaNs apart.
func bitsOfDots(list []impl.Dot) []uint64 {
	bits := []uint64{}
	for _, d := range list[:cap(list)] {
		bits = append(bits, math.Float64bits(d.X), math.Float64bits(d.Y))
	}
	return bits
}

// holdSpot asks twice, and looks whether the dots are left alone, those behind the list's end too.
func holdSpot(t *testing.T, what string, list []impl.Dot, want impl.SpotResult) {
	t.Helper()
	kept := bitsOfDots(list)
	for range 2 {
		if got := impl.SpotOf(list); !sameSpot(got, want) {
			t.Errorf("%s: SpotOf(%s) = %+v, want %+v", what, brief(list), got, want)
		}
	}
	if !slices.Equal(kept, bitsOfDots(list)) {
		t.Errorf("%s: SpotOf changes its dots", what)
	}
}

func TestSpotOfHowMany(t *testing.T) {
	none, many := impl.SpotResult{Code: impl.ErrForm}, impl.SpotResult{Code: impl.ErrMany}
	dot := impl.Dot{X: 3, Y: -4}
	holdSpot(t, "none", nil, none)
	holdSpot(t, "none", []impl.Dot{}, none)
	holdSpot(t, "none", []impl.Dot{dot, dot}[:0], none)
	for _, count := range []int{1, 2, 3, 64, 399, 400} {
		holdSpot(t, "alike", slices.Repeat([]impl.Dot{dot}, count), impl.SpotResult{X: 3, Y: -4})
		holdSpot(t, "room behind", roomy(slices.Repeat([]impl.Dot{dot}, count), impl.Dot{X: 9, Y: 9}), impl.SpotResult{X: 3, Y: -4})
	}
	for _, count := range []int{401, 402, 800, 5000} {
		holdSpot(t, "too many", slices.Repeat([]impl.Dot{dot}, count), many)
		holdSpot(t, "too many", slices.Repeat([]impl.Dot{{X: math.NaN(), Y: math.Inf(1)}}, count), many)
		holdSpot(t, "room for too many", slices.Repeat([]impl.Dot{dot}, count)[:400], impl.SpotResult{X: 3, Y: -4})
	}
}

func TestSpotOfTold(t *testing.T) {
	holdSpot(t, "two", []impl.Dot{{X: 1}, {X: 3}}, impl.SpotResult{X: 2, Rms: 1})
	holdSpot(t, "two", []impl.Dot{{Y: 1}, {Y: 3}}, impl.SpotResult{Y: 2, Rms: 1})
	holdSpot(t, "two", []impl.Dot{{X: 3, Y: 4}, {X: -3, Y: -4}}, impl.SpotResult{Rms: 5})
	holdSpot(t, "three", []impl.Dot{{X: 1, Y: 2}, {X: 4, Y: 2}, {X: 7, Y: 2}}, impl.SpotResult{X: 4, Y: 2, Rms: math.Sqrt(6)})
	holdSpot(t, "corners", []impl.Dot{{X: 1, Y: 1}, {X: -1, Y: 1}, {X: -1, Y: -1}, {X: 1, Y: -1}}, impl.SpotResult{Rms: math.Sqrt2})
	holdSpot(t, "a far one", []impl.Dot{{}, {}, {}, {X: 4, Y: -8}}, impl.SpotResult{X: 1, Y: -2, Rms: math.Sqrt(15)})
	// The root of 18 by that of 9 is another float than the root of 2.
	nine := []impl.Dot{{X: 1}, {X: -1}, {X: 2}, {X: -2}, {X: 2}, {X: -2}, {}, {}, {}}
	if direct := math.Sqrt(18) / math.Sqrt(9); direct == math.Sqrt(2) {
		t.Error("the quotient ahead of the root is not seen")
	}
	holdSpot(t, "the quotient first", nine, impl.SpotResult{Rms: math.Sqrt(2)})
}

func TestSpotOfSumsInOrder(t *testing.T) {
	// 1 is lost beside 1e16, but not behind it.
	lost, kept := []impl.Dot{{X: 1, Y: 1e16}, {X: 1e16, Y: -1e16}, {X: -1e16, Y: 1}}, []impl.Dot{{X: 1e16, Y: 1}, {X: -1e16, Y: 1e16}, {X: 1, Y: -1e16}}
	if got := impl.SpotOf(lost); !sameFloat(got.X, 0) || !sameFloat(got.Y, 1.0/3) {
		t.Error(got)
	}
	if got := impl.SpotOf(kept); !sameFloat(got.X, 1.0/3) || !sameFloat(got.Y, 0) {
		t.Error(got)
	}
	holdSpot(t, "lost", lost, spotByWords(lost))
	holdSpot(t, "kept", kept, spotByWords(kept))
	// Of dots around 0, squares of 1 are lost beside that of 2^27, one by one, but not ahead of it.
	great := []impl.Dot{{X: 0x1p27}, {X: -0x1p27}}
	small := slices.Repeat([]impl.Dot{{Y: 1}, {Y: -1}}, 31)
	holdSpot(t, "great ahead", append(slices.Clone(great), small...), impl.SpotResult{Rms: math.Sqrt(0x1p55 / 64)})
	holdSpot(t, "great behind", append(slices.Clone(small), great...), impl.SpotResult{Rms: math.Sqrt((0x1p55 + 64) / 64)})
}

func TestSpotOfNoughts(t *testing.T) {
	for _, x := range []float64{0, nought()} {
		for _, y := range []float64{0, nought()} {
			for _, count := range []int{1, 2, 5, 400} {
				// From +0 on no sum of noughts is -0.
				holdSpot(t, "noughts", slices.Repeat([]impl.Dot{{X: x, Y: y}}, count), impl.SpotResult{})
			}
			holdSpot(t, "noughts", []impl.Dot{{X: x, Y: 1}, {X: y, Y: -1}}, impl.SpotResult{Rms: 1})
		}
	}
	// A sum just below 0 is rounded to -0 when it is divided.
	least := -5e-324
	holdSpot(t, "least", []impl.Dot{{X: least}, {Y: least}}, impl.SpotResult{X: nought(), Y: nought()})
	holdSpot(t, "least", []impl.Dot{{X: -least}, {Y: -least}, {}}, impl.SpotResult{})
	holdSpot(t, "least", []impl.Dot{{X: least, Y: 3 * least}, {X: least}}, impl.SpotResult{X: least, Y: 2 * least})
}

func TestSpotOfWithoutBounds(t *testing.T) {
	inf, nan := math.Inf(1), math.NaN()
	holdSpot(t, "infinite", []impl.Dot{{X: inf, Y: 1}}, impl.SpotResult{X: inf, Y: 1, Rms: nan})
	holdSpot(t, "infinite", []impl.Dot{{X: 1, Y: -inf}, {X: 3}}, impl.SpotResult{X: 2, Y: -inf, Rms: nan})
	holdSpot(t, "infinite", []impl.Dot{{X: inf, Y: 1}, {X: -inf, Y: 1}}, impl.SpotResult{X: nan, Y: 1, Rms: nan})
	holdSpot(t, "NaN", []impl.Dot{{X: nan, Y: 1}, {X: 1, Y: 2}}, impl.SpotResult{X: nan, Y: 1.5, Rms: nan})
	holdSpot(t, "NaN", []impl.Dot{{X: 1, Y: 1}, {X: 2, Y: nan}}, impl.SpotResult{X: 1.5, Y: nan, Rms: nan})
	// The sum has no bounds, though the dots have.
	holdSpot(t, "great", []impl.Dot{{X: 1e308}, {X: 1e308}}, impl.SpotResult{X: inf, Rms: inf})
	holdSpot(t, "great", []impl.Dot{{X: 1e308}, {X: -1e308}, {X: 1e308}, {X: -1e308}}, impl.SpotResult{Rms: inf})
	holdSpot(t, "great", []impl.Dot{{Y: 1e200}, {Y: -1e200}}, impl.SpotResult{Rms: inf})
	holdSpot(t, "great", []impl.Dot{{Y: 1e153}, {Y: -1e153}}, impl.SpotResult{Rms: math.Sqrt(1e153 * 1e153)})
	holdSpot(t, "small", []impl.Dot{{Y: 1e-200}, {Y: -1e-200}}, impl.SpotResult{})
	for _, bits := range bitsOfNaNs() {
		holdSpot(t, "NaNs", []impl.Dot{{X: math.Float64frombits(bits)}}, impl.SpotResult{X: nan, Rms: nan})
	}
}

func drawnDots(draw *numbers, count int, size float64) []impl.Dot {
	list := []impl.Dot{}
	for range count {
		list = append(list, impl.Dot{X: aroundNought(draw, size), Y: aroundNought(draw, size)})
	}
	return list
}

// TestSpotOfDrawnDots counts how often another way to reckon would be seen.
func TestSpotOfDrawnDots(t *testing.T) {
	draw := numbers{state: 1001}
	pairs, back, rootFirst, fused, apartSums := 0, 0, 0, 0, 0
	for range 600 {
		list := drawnDots(&draw, 2+int(draw.below(60)), 3)
		want := spotByWords(list)
		holdSpot(t, "drawn", list, want)
		xs, ys := numbersOf(list)
		n := float64(len(list))
		if impl.PairFloats(xs)/n != want.X {
			pairs++
		}
		slices.Reverse(xs)
		if sumByWords(xs)/n != want.X {
			back++
		}
		squares := squaresByWords(list, want.X, want.Y)
		if math.Sqrt(sumByWords(squares))/math.Sqrt(n) != want.Rms {
			rootFirst++
		}
		sum, alone := 0.0, [2]float64{}
		for i, d := range list {
			a, b := d.X-want.X, d.Y-want.Y
			sum += math.FMA(a, a, float64(b*b))
			alone[0] += float64(a * a)
			alone[1] += float64((ys[i] - want.Y) * (ys[i] - want.Y))
		}
		if math.Sqrt(sum/n) != want.Rms {
			fused++
		}
		if math.Sqrt((alone[0]+alone[1])/n) != want.Rms {
			apartSums++
		}
	}
	if pairs < 100 || back < 100 || rootFirst < 100 || fused < 20 || apartSums < 50 {
		t.Error(pairs, back, rootFirst, fused, apartSums)
	}
	for _, count := range []int{399, 400} {
		list := drawnDots(&draw, count, 1e3)
		holdSpot(t, "drawn", list, spotByWords(list))
	}
}

func TestSpotOfEveryEdge(t *testing.T) {
	draw := numbers{state: 1002}
	for _, x := range anyFloats() {
		for _, y := range edgeFloats() {
			holdSpot(t, "one", []impl.Dot{{X: x, Y: y}}, spotByWords([]impl.Dot{{X: x, Y: y}}))
		}
	}
	for range 5000 {
		list := []impl.Dot{}
		for range 1 + draw.below(4) {
			list = append(list, impl.Dot{X: drawnEdge(&draw), Y: drawnEdge(&draw)})
		}
		holdSpot(t, "edges", list, spotByWords(list))
	}
}

// TestSpotMovesWithItsDots: with whole numbers and a power of two of dots nothing is rounded ahead of the root.
func TestSpotMovesWithItsDots(t *testing.T) {
	draw := numbers{state: 1003}
	for range 300 {
		list := []impl.Dot{}
		for range 1 << draw.below(6) {
			list = append(list, impl.Dot{X: float64(draw.below(200)) - 100, Y: float64(draw.below(200)) - 100})
		}
		spot := impl.SpotOf(list)
		moved, mirrored, wide := []impl.Dot{}, []impl.Dot{}, []impl.Dot{}
		for _, d := range list {
			moved = append(moved, impl.Dot{X: d.X + 5, Y: d.Y - 7})
			mirrored = append(mirrored, impl.Dot{X: d.Y, Y: -d.X})
			wide = append(wide, impl.Dot{X: 4 * d.X, Y: 4 * d.Y})
		}
		slices.Reverse(moved)
		holdSpot(t, "moved", moved, impl.SpotResult{X: spot.X + 5, Y: spot.Y - 7, Rms: spot.Rms})
		holdSpot(t, "turned", mirrored, impl.SpotResult{X: spot.Y, Y: 0 - spot.X, Rms: spot.Rms})
		holdSpot(t, "wide", wide, impl.SpotResult{X: 4 * spot.X, Y: 4 * spot.Y, Rms: 4 * spot.Rms})
	}
}
