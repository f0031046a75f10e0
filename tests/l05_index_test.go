package tests

import (
	"math"
	"math/big"
	"testing"

	"loop.example/g00049/impl"
)

// sumOf, productOf and quotientOf round finite ones by big floats; of others they are the language's.
func sumOf(a float64, b float64) float64 {
	if !finite(a) || !finite(b) {
		return a + b
	}
	return plus(a, b)
}

func productOf(a float64, b float64) float64 {
	if !finite(a) || !finite(b) {
		return a * b
	}
	return times(a, b)
}

func quotientOf(a float64, b float64) float64 {
	if !finite(a) || !finite(b) || b == 0 {
		return a / b
	}
	return rounded((*big.Float).Quo, a, b)
}

// indexByWords is the index as the document tells it, each step rounded by itself.
func indexByWords(g impl.Glass, nm int64) float64 {
	length := quotientOf(float64(nm), 1000)
	square := productOf(length, length)
	k := []float64{}
	for _, number := range g.K {
		k = append(k, quotientOf(float64(number), 1e9))
	}
	if g.Kind == impl.GlassThree {
		sum := sumOf(k[0], quotientOf(k[1], square))
		return sumOf(sumOf(sum, quotientOf(k[2], productOf(square, square))), g.Shift)
	}
	sum := 1.0
	for _, i := range []int{0, 2, 4} {
		sum = sumOf(sum, quotientOf(productOf(k[i], square), sumOf(square, -k[i+1])))
	}
	return sumOf(impl.SqrtFloat(sum), g.Shift)
}

func slopeByWords(g impl.Glass, nm int64) float64 {
	return quotientOf(sumOf(indexByWords(g, nm+1), -indexByWords(g, nm-1)), 2)
}

func spreadByWords(g impl.Glass, a int64, b int64, c int64) float64 {
	return quotientOf(sumOf(indexByWords(g, b), -1), sumOf(indexByWords(g, a), -indexByWords(g, c)))
}

// drawnGlass has numbers of all sizes, many of them such as glasses have; it has Low + 2 below High.
func drawnGlass(draw *numbers) impl.Glass {
	g := impl.Glass{Name: "Drawn", Kind: impl.GlassSix + draw.below(2)}
	g.Low = 1 + draw.below(3000)
	g.High = g.Low + 2 + draw.below(impl.MaxNm-g.Low-1)
	for range 3 * (3 - g.Kind) {
		size := int64(1)
		for range draw.below(13) {
			size *= 10
		}
		g.K = append(g.K, draw.below(2*size+1)-size)
	}
	if draw.below(2) == 0 {
		g.Shift = float64(draw.below(2000001)-1000000) / 1000000
	}
	return g
}

func drawnGlasses(seed uint64, count int) []impl.Glass {
	draw := numbers{state: seed}
	list := []impl.Glass{}
	for range count {
		list = append(list, drawnGlass(&draw))
	}
	return list
}

// coloursOf are a glass's bounds, and some wavelengths between.
func coloursOf(g impl.Glass) []int64 {
	draw := numbers{state: uint64(g.Low*impl.MaxNm + g.High)}
	list := []int64{g.Low, g.High, g.Low + 1, g.High - 1}
	for range 4 {
		list = append(list, g.Low+draw.below(g.High-g.Low+1))
	}
	return list
}

// wrongGlasses have a fault each, which the map tells.
func wrongGlasses() map[int64]impl.Glass {
	return map[int64]impl.Glass{
		impl.ErrForm:  changedGlass(sixGlass(), func(g *impl.Glass) { g.K = g.K[:5] }),
		impl.ErrRange: changedGlass(sixGlass(), func(g *impl.Glass) { g.K[5] = tenToTwelve + 1 }),
	}
}

func holdIndex(t *testing.T, what string, got impl.IndexResult, want float64) {
	t.Helper()
	if got.Code != impl.OK || !sameFloat(got.Index, want) {
		t.Errorf("%s: %v, want %v", what, got, want)
	}
}

func holdNoIndex(t *testing.T, what string, got impl.IndexResult, code int64) {
	t.Helper()
	if got.Code != code || math.Float64bits(got.Index) != 0 {
		t.Errorf("%s: %v, want the code %d and nothing", what, got, code)
	}
}

func TestIndexTold(t *testing.T) {
	three := impl.Glass{Name: "T", Kind: impl.GlassThree, Low: 300, High: 2000, K: []int64{1511000000, 4300000, -12345}}
	for _, c := range []struct {
		glass impl.Glass
		shift float64
		nm    int64
		bits  uint64
	}{
		{sixGlass(), 0, 310, 0x3FF8CA69119FCF2B}, {sixGlass(), 0, 486, 0x3FF85BB14FD9E513}, {sixGlass(), 0, 588, 0x3FF844BCED3A850C},
		{sixGlass(), 0, 656, 0x3FF83AB2FB984EB7}, {sixGlass(), 0, 1000, 0x3FF81EBAA191EC5E}, {sixGlass(), 0, 2500, 0x3FF7C6BA817F13C6},
		{sixGlass(), 0.0125, 588, 0x3FF877F0206DB83F}, {sixGlass(), 0.0125, 2500, 0x3FF7F9EDB4B246F9},
		{three, 0, 300, 0x3FF8EA82DC0FB76C}, {three, 0, 588, 0x3FF85F9321E4685E}, {three, 0, 2000, 0x3FF83174BF043747},
		{three, -0.3, 486, 0x3FF3A9EB0FA92612}, {three, -0.3, 656, 0x3FF388E93588D025},
		{threeGlass(), 0, 1000, math.Float64bits(1.505)}, {evenGlass(), 0.25, 1, math.Float64bits(1.75)}, {evenGlass(), -1, impl.MaxNm, math.Float64bits(0.5)},
	} {
		g := c.glass
		g.Shift = c.shift
		holdIndex(t, g.Name, impl.IndexAt(g, c.nm), math.Float64frombits(c.bits))
	}
}

func TestSlopesAndSpreadsTold(t *testing.T) {
	g := sixGlass()
	holdIndex(t, "slope", impl.SlopeAt(g, 588), math.Float64frombits(0xBF05DEC0E2498000))
	holdIndex(t, "spread", impl.SpreadOf(g, 486, 588, 656), math.Float64frombits(0x40500A003D6D28EA))
	holdIndex(t, "slope of an even glass", impl.SlopeAt(evenGlass(), 500), 0)
	holdIndex(t, "spread of an even glass", impl.SpreadOf(evenGlass(), 400, 500, 600), math.Inf(1))
	holdIndex(t, "spread of one wavelength", impl.SpreadOf(g, 588, 588, 588), math.Inf(1))
	below := changedGlass(evenGlass(), func(g *impl.Glass) { g.Shift = -0.75 })
	holdIndex(t, "spread of an index below 1", impl.SpreadOf(below, 400, 500, 600), math.Inf(-1))
	one := changedGlass(evenGlass(), func(g *impl.Glass) { g.Shift = -0.5 })
	holdIndex(t, "spread of an index of 1", impl.SpreadOf(one, 400, 500, 600), math.NaN())
}

func TestIndexStepByStep(t *testing.T) {
	for _, g := range append(drawnGlasses(51, 3000), sixGlass(), threeGlass(), evenGlass()) {
		kept := copyOfGlass(g)
		list := coloursOf(g)
		for i, nm := range list {
			holdIndex(t, "index", impl.IndexAt(g, nm), indexByWords(g, nm))
			if nm > g.Low && nm < g.High {
				holdIndex(t, "slope", impl.SlopeAt(g, nm), slopeByWords(g, nm))
			}
			b, c := list[(i+1)%len(list)], list[(i+3)%len(list)]
			holdIndex(t, "spread", impl.SpreadOf(g, nm, b, c), spreadByWords(g, nm, b, c))
		}
		if !sameGlass(g, kept) {
			t.Fatalf("%v was changed to %v", kept, g)
		}
	}
}

// At 1000 nm L is 1, so that a k of 1 below it leaves nought to divide by.
func TestIndexThatIsNoNumber(t *testing.T) {
	for _, c := range []struct {
		k    []int64
		want float64
	}{
		{[]int64{1, 1000000000, 0, 0, 0, 0}, math.Inf(1)},
		{[]int64{-1, 1000000000, 0, 0, 0, 0}, math.NaN()},
		{[]int64{0, 1000000000, 0, 0, 0, 0}, math.NaN()},
		{[]int64{0, 0, 5, 1000000000, 0, 0}, math.Inf(1)},
		{[]int64{0, 0, 0, 0, 7, 1000000000}, math.Inf(1)},
		{[]int64{1, 1000000000, -1, 1000000000, 0, 0}, math.NaN()},
		{[]int64{-2000000000, 0, 0, 0, 0, 0}, math.NaN()},
		{[]int64{-1000000000, 0, 0, 0, 0, 0}, 0},
		{[]int64{0, 0, 0, 0, 0, 0}, 1},
		{[]int64{0, 0, 0, 0, 3000000000, 0}, 2},
		{[]int64{1500000000, 500000000, 0, 0, 0, 0}, 2},
	} {
		g := impl.Glass{Name: "N", Kind: impl.GlassSix, Low: 900, High: 1100, K: c.k}
		holdIndex(t, "index", impl.IndexAt(g, 1000), c.want)
		holdIndex(t, "slope beside it", impl.SlopeAt(g, 1001), slopeByWords(g, 1001))
		holdIndex(t, "spread with it first", impl.SpreadOf(g, 1000, 950, 1050), spreadByWords(g, 1000, 950, 1050))
		holdIndex(t, "spread with it between", impl.SpreadOf(g, 950, 1000, 1050), spreadByWords(g, 950, 1000, 1050))
		holdIndex(t, "spread with it last", impl.SpreadOf(g, 950, 1050, 1000), spreadByWords(g, 950, 1050, 1000))
	}
}

func TestColoursWithoutTheBounds(t *testing.T) {
	for _, g := range []impl.Glass{sixGlass(), threeGlass(), evenGlass()} {
		for _, nm := range []int64{math.MinInt64, math.MinInt64 + 1, -1, 0, g.Low - 1, g.High + 1, math.MaxInt64 - 1, math.MaxInt64} {
			holdNoIndex(t, "index", impl.IndexAt(g, nm), impl.ErrRange)
			holdNoIndex(t, "slope", impl.SlopeAt(g, nm), impl.ErrRange)
			holdNoIndex(t, "spread from it", impl.SpreadOf(g, nm, g.Low, g.High), impl.ErrRange)
			holdNoIndex(t, "spread at it", impl.SpreadOf(g, g.Low, nm, g.High), impl.ErrRange)
			holdNoIndex(t, "spread to it", impl.SpreadOf(g, g.Low, g.High, nm), impl.ErrRange)
			holdNoIndex(t, "spread of it alone", impl.SpreadOf(g, nm, nm, nm), impl.ErrRange)
		}
		for _, nm := range []int64{g.Low, g.High} {
			holdIndex(t, "index at a bound", impl.IndexAt(g, nm), indexByWords(g, nm))
			holdNoIndex(t, "slope at a bound", impl.SlopeAt(g, nm), impl.ErrRange)
			holdIndex(t, "spread at a bound", impl.SpreadOf(g, nm, g.Low, g.High), spreadByWords(g, nm, g.Low, g.High))
		}
		for _, nm := range []int64{g.Low + 1, g.High - 1} {
			holdIndex(t, "slope within the bounds", impl.SlopeAt(g, nm), slopeByWords(g, nm))
		}
	}
	narrow := changedGlass(sixGlass(), func(g *impl.Glass) { g.Low, g.High = 500, 501 })
	holdNoIndex(t, "slope without room", impl.SlopeAt(narrow, 500), impl.ErrRange)
	holdNoIndex(t, "slope without room", impl.SlopeAt(narrow, 501), impl.ErrRange)
}

// The glass's fault comes ahead of the wavelength's.
func TestIndexOfWrongGlasses(t *testing.T) {
	for code, g := range wrongGlasses() {
		for _, nm := range []int64{math.MinInt64, 0, 500, impl.MaxNm + 1, math.MaxInt64} {
			holdNoIndex(t, "index", impl.IndexAt(g, nm), code)
			holdNoIndex(t, "slope", impl.SlopeAt(g, nm), code)
			holdNoIndex(t, "spread", impl.SpreadOf(g, nm, 500, 600), code)
			holdNoMelt(t, g, nm, 1.5, code)
		}
	}
	holdNoIndex(t, "index of the zero value", impl.IndexAt(impl.Glass{}, 0), impl.ErrForm)
	holdNoIndex(t, "slope of the zero value", impl.SlopeAt(impl.Glass{}, 0), impl.ErrForm)
	holdNoIndex(t, "spread of the zero value", impl.SpreadOf(impl.Glass{}, 0, 0, 0), impl.ErrForm)
	holdNoMelt(t, impl.Glass{}, 0, 0, impl.ErrForm)
}

func holdNoMelt(t *testing.T, g impl.Glass, nm int64, index float64, code int64) {
	t.Helper()
	got := impl.MeltOf(g, nm, index)
	if got.Code != code || !sameGlass(got.Glass, impl.Glass{}) {
		t.Errorf("MeltOf(%v, %d, %v) = %v, want the code %d and nothing", g, nm, index, got, code)
	}
}

// holdMelt asks for the glass with that Shift, in memory of its own.
func holdMelt(t *testing.T, g impl.Glass, nm int64, index float64, shift float64) {
	t.Helper()
	kept := copyOfGlass(g)
	want := copyOfGlass(g)
	want.Shift = shift
	got := impl.MeltOf(g, nm, index)
	if got.Code != impl.OK || !sameGlass(got.Glass, want) {
		t.Errorf("MeltOf(%v, %d, %v) = %v, want the Shift %v", g, nm, index, got, shift)
	}
	apart(t, [][]int64{got.Glass.K}, [][]int64{g.K})
	for i := range got.Glass.K {
		got.Glass.K[i]++
	}
	if !sameGlass(g, kept) {
		t.Errorf("MeltOf(%v, %d, %v): the glass was changed to %v", kept, nm, index, g)
	}
}

func TestMeltThatMeasuredWhatWasTold(t *testing.T) {
	glasses := append(drawnGlasses(52, 1000), sixGlass(), threeGlass(), evenGlass())
	for _, shift := range []float64{1, -1, 0.1, -0.1, 1.0 / 3, 5e-324, -5e-324} {
		glasses = append(glasses, changedGlass(sixGlass(), func(g *impl.Glass) { g.Shift = shift }))
	}
	for _, g := range glasses {
		for _, nm := range coloursOf(g) {
			if index := impl.IndexAt(g, nm).Index; finite(index) {
				holdMelt(t, g, nm, index, g.Shift)
			}
		}
	}
}

// The sum of -0 and what is left of equals, +0, is +0.
func TestMeltOfAShiftBelowNought(t *testing.T) {
	g := changedGlass(sixGlass(), func(g *impl.Glass) { g.Shift = math.Copysign(0, -1) })
	holdMelt(t, g, 588, impl.IndexAt(g, 588).Index, 0)
}

func TestMeltsTold(t *testing.T) {
	even := evenGlass()
	holdMelt(t, even, 500, 1.625, 0.125)
	holdMelt(t, even, 1, 1, -0.5)
	holdMelt(t, even, impl.MaxNm, 2.5, 1)
	holdMelt(t, even, 500, 0.5, -1)
	holdMelt(t, even, 500, math.Nextafter(2.5, 0), math.Nextafter(2.5, 0)-1.5)
	holdNoMelt(t, even, 500, math.Nextafter(2.5, 3), impl.ErrRange)
	holdNoMelt(t, even, 500, 0.5-0x1p-52, impl.ErrRange)
	for _, index := range []float64{3, 0, -1.5, impl.LargestFloat, -impl.LargestFloat, math.Inf(1), math.Inf(-1), math.NaN()} {
		holdNoMelt(t, even, 500, index, impl.ErrRange)
	}
	// The Shift that there is counts: what is measured is added to it, and what comes out is looked at again.
	high := changedGlass(even, func(g *impl.Glass) { g.Shift = 0.75 })
	holdMelt(t, high, 500, 2.5, 1)
	holdMelt(t, high, 500, 0.75, -0.75)
	holdMelt(t, high, 500, 0.5, -1)
	holdNoMelt(t, high, 500, 2.75, impl.ErrRange)
	holdNoMelt(t, high, 500, 0.25, impl.ErrRange)
}

func TestMeltsStepByStep(t *testing.T) {
	for _, g := range drawnGlasses(53, 2000) {
		for i, nm := range coloursOf(g) {
			index := indexByWords(g, nm)
			if !finite(index) {
				continue
			}
			measured := index + float64(i-4)/3
			shift := sumOf(g.Shift, sumOf(measured, -index))
			if shift < -1 || shift > 1 {
				holdNoMelt(t, g, nm, measured, impl.ErrRange)
				continue
			}
			holdMelt(t, g, nm, measured, shift)
			if code := impl.GlassFault(impl.MeltOf(g, nm, measured).Glass); code != impl.OK {
				t.Errorf("the melt of %v is wrong: %d", g, code)
			}
		}
	}
}

func TestMeltsWithoutTheBounds(t *testing.T) {
	g := sixGlass()
	holdMelt(t, g, g.Low, indexByWords(g, g.Low), 0)
	holdMelt(t, g, g.High, indexByWords(g, g.High), 0)
	for _, nm := range []int64{math.MinInt64, -1, 0, g.Low - 1, g.High + 1, math.MaxInt64} {
		holdNoMelt(t, g, nm, 1.5, impl.ErrRange)
	}
}

// Nothing that is measured mends an index that is no number.
func TestMeltsOfNoNumber(t *testing.T) {
	for _, k := range [][]int64{{1, 1000000000, 0, 0, 0, 0}, {-1, 1000000000, 0, 0, 0, 0}} {
		g := impl.Glass{Name: "N", Kind: impl.GlassSix, Low: 900, High: 1100, K: k}
		for _, index := range []float64{1.5, 0, math.Inf(1), math.Inf(-1), math.NaN()} {
			holdNoMelt(t, g, 1000, index, impl.ErrRange)
		}
	}
}
