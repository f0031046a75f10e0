package tests

import (
	"math"
	"math/big"
	"slices"
	"testing"

	"loop.example/g00049/impl"
)

// onceSum, onceProduct and onceQuotient of finite floats are rounded just once, near the least floats too; of others they are the language's.
func onceSum(a float64, b float64) float64 {
	if !finite(a) || !finite(b) {
		return a + b
	}
	// So many bits hold every sum and product of two floats.
	sum, _ := new(big.Float).SetPrec(2200).Add(big.NewFloat(a), big.NewFloat(b)).Float64()
	return sum
}

func onceProduct(a float64, b float64) float64 {
	if !finite(a) || !finite(b) {
		return a * b
	}
	product, _ := new(big.Float).SetPrec(2200).Mul(big.NewFloat(a), big.NewFloat(b)).Float64()
	return product
}

func onceQuotient(a float64, b float64) float64 {
	if !finite(a) || !finite(b) || b == 0 {
		return a / b
	}
	size, _ := new(big.Rat).Quo(exact(math.Abs(a)), exact(math.Abs(b))).Float64()
	if math.Signbit(a) != math.Signbit(b) {
		return -size
	}
	return size
}

func nought() float64 {
	return math.Copysign(0, -1)
}

// edgeFloats are floats of each kind that rays and faces tell apart.
func edgeFloats() []float64 {
	return []float64{0, nought(), 1, -1, 0.5, -0.5, 2, -2, 0.1, 5e-324, -5e-324, 0x1p-1022, 1e-200, 1e-12, 1e155, -1e155, impl.LargestFloat, -impl.LargestFloat, math.Inf(1), math.Inf(-1), math.NaN()}
}

// drawnEdge is one of them, or any number that a bench has, of both signs.
func drawnEdge(draw *numbers) float64 {
	list := edgeFloats()
	if draw.below(2) == 0 {
		return list[draw.below(int64(len(list)))]
	}
	return aroundNought(draw, 2)
}

// aroundNought draws a float from below 0 to above 0, of at most that size.
func aroundNought(draw *numbers, size float64) float64 {
	return size * (2*drawnPart(draw) - 1)
}

func TestRoundedOnce(t *testing.T) {
	for _, a := range anyFloats() {
		for _, b := range edgeFloats() {
			holdFloat(t, "a sum", onceSum(a, b), a+b)
			holdFloat(t, "a product", onceProduct(a, b), a*b)
			holdFloat(t, "a quotient", onceQuotient(a, b), a/b)
			holdFloat(t, "a quotient", onceQuotient(b, a), b/a)
		}
	}
}

func TestRayBounds(t *testing.T) {
	if impl.MaxSteps != 20 || impl.Near != 1e-12 || impl.MaxGhosts != 3000 {
		t.Error("bounds")
	}
}

func floatsOfFace(f impl.Face) []float64 {
	return []float64{f.Curve, f.Conic, f.Gap, f.Index, f.Semi}
}

func sameFace(a impl.Face, b impl.Face) bool {
	return slices.EqualFunc(floatsOfFace(a), floatsOfFace(b), sameFloat)
}

// floatByWords is a fraction's float: both its numbers are rounded, then their quotient.
func floatByWords(f impl.Frac) float64 {
	rounded := func(n int64) float64 {
		r, _ := new(big.Rat).SetInt64(n).Float64()
		return r
	}
	return onceQuotient(rounded(f.Num), rounded(f.Den))
}

func facesByWords(list []impl.PlainSurf) []impl.Face {
	faces := []impl.Face{}
	for _, s := range list {
		told := []float64{}
		for _, f := range []impl.Frac{s.Curve, s.Conic, s.Gap, s.Index, s.Semi} {
			told = append(told, floatByWords(f))
		}
		faces = append(faces, impl.Face{Curve: told[0], Conic: told[1], Gap: told[2], Index: told[3], Semi: told[4]})
	}
	return faces
}

// holdFaces asks for an answer, and for the same one again, in memory of its own.
func holdFaces(t *testing.T, what string, list []impl.PlainSurf, want []impl.Face) {
	t.Helper()
	kept := slices.Clone(list[:cap(list)])
	got, again := impl.FacesOf(list), impl.FacesOf(list)
	if !slices.EqualFunc(got, want, sameFace) || !slices.EqualFunc(again, want, sameFace) {
		t.Errorf("%s: FacesOf(%s) = %s, want %s", what, brief(list), brief(got), brief(want))
	}
	if !slices.Equal(kept, list[:cap(list)]) {
		t.Errorf("%s: FacesOf changes its surfaces", what)
	}
	apart(t, [][]impl.Face{got}, [][]impl.Face{again})
}

func TestFacesOf(t *testing.T) {
	holdFaces(t, "none", nil, nil)
	holdFaces(t, "none", []impl.PlainSurf{}, nil)
	holdFaces(t, "none", []impl.PlainSurf{{}, {}}[:0], nil)
	a := impl.PlainSurf{Curve: frac(1, 50), Conic: frac(-1, 2), Gap: frac(7, 4), Index: frac(3, 2), Semi: frac(10, 1), Stop: true}
	b := impl.PlainSurf{Curve: frac(-1, 8), Conic: frac(0, 1), Gap: frac(-3, 1), Index: frac(1, 1), Semi: frac(0, 1)}
	c := impl.PlainSurf{Curve: frac(0, 1), Conic: frac(1, 3), Gap: frac(0, 1), Index: frac(17, 10), Semi: frac(2, 3)}
	faceA := impl.Face{Curve: 0.02, Conic: -0.5, Gap: 1.75, Index: 1.5, Semi: 10}
	faceB := impl.Face{Curve: -0.125, Gap: -3, Index: 1}
	faceC := impl.Face{Conic: 1.0 / 3, Index: 1.7, Semi: 2.0 / 3}
	holdFaces(t, "one", []impl.PlainSurf{a}, []impl.Face{faceA})
	holdFaces(t, "several", roomy([]impl.PlainSurf{a, b, c}, a), []impl.Face{faceA, faceB, faceC})
	holdFaces(t, "several", []impl.PlainSurf{c, a, a, b}, []impl.Face{faceC, faceA, faceA, faceB})
	// There is no bound to how many there are.
	for _, count := range []int{impl.MaxSurfs, impl.MaxSurfs + 1, 500} {
		holdFaces(t, "many", slices.Repeat([]impl.PlainSurf{b}, count), slices.Repeat([]impl.Face{faceB}, count))
	}
}

func TestFacesOfAnyFractions(t *testing.T) {
	inf := math.Inf(1)
	for f, want := range map[impl.Frac]float64{
		frac(0, 0): math.NaN(), frac(1, 0): inf, frac(-1, 0): -inf, frac(math.MaxInt64, 0): inf, frac(math.MinInt64, 0): -inf,
		frac(0, -1): nought(), frac(0, math.MinInt64): nought(), frac(0, 7): 0, frac(4, -8): -0.5, frac(-4, -8): 0.5, frac(6, 4): 1.5,
		frac(1<<53+1, 1): 1 << 53, frac(1<<53+3, 1): 1<<53 + 4, frac(-(1<<53 + 1), 1): -(1 << 53), frac(1, 1<<53+1): 0x1p-53,
		frac(math.MaxInt64, 1): 0x1p63, frac(math.MinInt64, 1): -0x1p63, frac(math.MaxInt64, math.MinInt64): -1, frac(math.MinInt64, math.MinInt64): 1,
	} {
		s := impl.PlainSurf{Curve: f, Conic: f, Gap: f, Index: f, Semi: f}
		holdFaces(t, "any", []impl.PlainSurf{s}, []impl.Face{{Curve: want, Conic: want, Gap: want, Index: want, Semi: want}})
	}
	// What is wrong in one place says nothing of the others.
	for place := range 5 {
		fracs := []impl.Frac{frac(1, 2), frac(1, 4), frac(1, 8), frac(3, 2), frac(5, 1)}
		told := []float64{0.5, 0.25, 0.125, 1.5, 5}
		fracs[place], told[place] = frac(0, 0), math.NaN()
		s := impl.PlainSurf{Curve: fracs[0], Conic: fracs[1], Gap: fracs[2], Index: fracs[3], Semi: fracs[4]}
		want := impl.Face{Curve: told[0], Conic: told[1], Gap: told[2], Index: told[3], Semi: told[4]}
		holdFaces(t, "one is wrong", []impl.PlainSurf{s}, []impl.Face{want})
	}
}

// TestFacesOfDrawnFractions has many of which no float has the Num or the Den, so that rounding only the quotient is seen.
func TestFacesOfDrawnFractions(t *testing.T) {
	draw := numbers{state: 91}
	any := func() impl.Frac {
		return frac(draw.next()>>draw.below(63), draw.next()>>draw.below(63))
	}
	unlike := 0
	for range 2000 {
		list := []impl.PlainSurf{}
		for range draw.below(4) {
			s := impl.PlainSurf{Curve: any(), Conic: any(), Gap: any(), Index: any(), Semi: any(), Stop: draw.below(2) == 0}
			list = append(list, s)
			if s.Curve.Den != 0 {
				if direct, _ := big.NewRat(s.Curve.Num, s.Curve.Den).Float64(); direct != floatByWords(s.Curve) {
					unlike++
				}
			}
		}
		holdFaces(t, "drawn", list, facesByWords(list))
	}
	if unlike < 100 {
		t.Error(unlike)
	}
}

func sameSag(a impl.SagResult, b impl.SagResult) bool {
	return a.Code == b.Code && sameFloat(a.Sag, b.Sag) && sameFloat(a.Under, b.Under)
}

func sagByWords(f impl.Face, x float64, y float64) impl.SagResult {
	r := onceSum(onceProduct(x, x), onceProduct(y, y))
	product := onceSum(1, f.Conic)
	for _, factor := range []float64{f.Curve, f.Curve, r} {
		product = onceProduct(product, factor)
	}
	u := onceSum(1, -product)
	if math.IsNaN(u) || u < 0 {
		return impl.SagResult{Code: impl.ErrNone}
	}
	under := math.Sqrt(u)
	return impl.SagResult{Sag: onceQuotient(onceProduct(f.Curve, r), onceSum(1, under)), Under: under}
}

// holdSag asks twice; a face's other floats say nothing of its Sag.
func holdSag(t *testing.T, what string, f impl.Face, x float64, y float64, want impl.SagResult) {
	t.Helper()
	other := impl.Face{Curve: f.Curve, Conic: f.Conic, Gap: math.NaN(), Index: -1, Semi: 1e-9}
	for _, face := range []impl.Face{f, f, other} {
		if got := impl.SagOf(face, x, y); !sameSag(got, want) {
			t.Errorf("%s: SagOf(%+v, %v, %v) = %+v, want %+v", what, face, x, y, got, want)
		}
	}
}

func noSag() impl.SagResult {
	return impl.SagResult{Code: impl.ErrNone}
}

func TestSagOfTold(t *testing.T) {
	flat := func(sag float64) impl.SagResult { return impl.SagResult{Sag: sag, Under: 1} }
	for _, y := range []float64{0, nought(), 3, -3, 1e150} {
		holdSag(t, "plane", impl.Face{}, 2, y, flat(0))
		holdSag(t, "plane", impl.Face{Curve: nought()}, -2, y, flat(nought()))
		holdSag(t, "plane", impl.Face{Conic: 5}, y, 7, flat(0))
		holdSag(t, "plane", impl.Face{Curve: nought(), Conic: -5}, y, y, flat(nought()))
	}
	for _, x := range []float64{0, nought()} {
		holdSag(t, "vertex", impl.Face{Curve: 0.5}, x, nought(), flat(0))
		holdSag(t, "vertex", impl.Face{Curve: -0.5, Conic: 3}, x, 0, flat(nought()))
		holdSag(t, "vertex", impl.Face{Curve: 1e150, Conic: -7}, 0, x, flat(0))
	}
	for _, sign := range []float64{1, -1} {
		holdSag(t, "sphere", impl.Face{Curve: sign}, 0.6, 0.8, impl.SagResult{Sag: sign, Under: 0})
		holdSag(t, "sphere", impl.Face{Curve: 0.125 * sign}, 0, -8, impl.SagResult{Sag: 8 * sign, Under: 0})
		holdSag(t, "paraboloid", impl.Face{Curve: 0.5 * sign, Conic: -1}, 1, -1, flat(0.5*sign))
		holdSag(t, "paraboloid", impl.Face{Curve: 4 * sign, Conic: -1}, 300, 400, flat(500000*sign))
		holdSag(t, "hyperboloid", impl.Face{Curve: sign, Conic: -4}, -1, 0, impl.SagResult{Sag: sign / 3, Under: 2})
		holdSag(t, "ellipsoid", impl.Face{Curve: sign, Conic: 2}, 0.5, 0, impl.SagResult{Sag: sign * 0.25 / 1.5, Under: 0.5})
		holdSag(t, "ellipsoid", impl.Face{Curve: sign, Conic: -0.75}, 0, math.Sqrt(3), impl.SagResult{Sag: sign * math.Sqrt(3) * math.Sqrt(3) / (1 + math.Sqrt(1-0.25*math.Sqrt(3)*math.Sqrt(3))), Under: math.Sqrt(1 - 0.25*math.Sqrt(3)*math.Sqrt(3))})
		holdSag(t, "outside", impl.Face{Curve: sign}, 2, 0, noSag())
		holdSag(t, "outside", impl.Face{Curve: sign, Conic: 1}, 0.6, 0.6, noSag())
		holdSag(t, "inside", impl.Face{Curve: sign, Conic: -1}, 1e6, 0, flat(sign*1e12/2))
	}
}

func TestSagOfAtTheRim(t *testing.T) {
	below, above := math.Nextafter(1, 0), math.Nextafter(1, 2)
	rim := impl.Face{Curve: 1}
	holdSag(t, "u is 0", rim, 1, 0, impl.SagResult{Sag: 1})
	holdSag(t, "u is 0", rim, 0, -1, impl.SagResult{Sag: 1})
	holdSag(t, "u is 0", impl.Face{Curve: 0.5, Conic: 3}, 1, 0, impl.SagResult{Sag: 0.5})
	holdSag(t, "just above", rim, below, 0, impl.SagResult{Sag: (below * below) / (1 + 0x1p-26), Under: 0x1p-26})
	holdSag(t, "just below", rim, above, 0, noSag())
	holdSag(t, "just below", rim, 1, 0x1p-26, noSag())
	holdSag(t, "rounded away", rim, 1, 0x1p-27, impl.SagResult{Sag: 1})
	holdSag(t, "just below", impl.Face{Curve: above}, 1, 0, noSag())
	holdSag(t, "just below", impl.Face{Curve: 1, Conic: 0x1p-52}, 1, 0, noSag())
	holdSag(t, "just above", impl.Face{Curve: 1, Conic: -0x1p-53}, 1, 0, impl.SagResult{Sag: 1 / (1 + math.Sqrt(0x1p-53)), Under: math.Sqrt(0x1p-53)})
}

func TestSagOfWithoutBounds(t *testing.T) {
	inf, nan := math.Inf(1), math.NaN()
	for _, curve := range []float64{0, nought(), 0.1, -0.1} {
		for _, f := range []float64{inf, -inf, nan, 1e155, -1e200} {
			// Even on a plane a nought times such a square is none, and so is the product of a paraboloid.
			holdSag(t, "far", impl.Face{Curve: curve}, f, 0, noSag())
			holdSag(t, "far", impl.Face{Curve: curve}, 1, f, noSag())
			holdSag(t, "far", impl.Face{Curve: curve, Conic: -1}, f, f, noSag())
		}
		for _, conic := range []float64{inf, nan} {
			holdSag(t, "conic", impl.Face{Curve: curve, Conic: conic}, 1, 1, noSag())
			holdSag(t, "conic", impl.Face{Curve: curve, Conic: conic}, 0, 0, noSag())
		}
	}
	// The square here is just the greatest finite one.
	x, y := math.Nextafter(0x1p512, 0), 1.4*0x1p485
	if x*x+y*y != impl.LargestFloat {
		t.Error(x*x + y*y)
	}
	holdSag(t, "far", impl.Face{}, x, y, impl.SagResult{Under: 1})
	holdSag(t, "far", impl.Face{Conic: impl.LargestFloat}, -y, x, impl.SagResult{Under: 1})
	holdSag(t, "conic", impl.Face{Conic: -inf}, 1, 1, noSag())
	holdSag(t, "conic", impl.Face{Curve: 1, Conic: -inf}, 0, 0, noSag())
	holdSag(t, "curve", impl.Face{Curve: nan}, 0, 0, noSag())
	holdSag(t, "curve", impl.Face{Curve: inf}, 0, 0, noSag())
	holdSag(t, "curve", impl.Face{Curve: -inf}, 1, 0, noSag())
	// Here u is infinite and from 0 on.
	holdSag(t, "far", impl.Face{Curve: 1, Conic: -2}, inf, 0, impl.SagResult{Sag: nan, Under: inf})
	holdSag(t, "far", impl.Face{Curve: 0.1, Conic: -inf}, 1, 0, impl.SagResult{Sag: 0, Under: inf})
	holdSag(t, "far", impl.Face{Curve: -0.1, Conic: -inf}, 1, 0, impl.SagResult{Sag: nought(), Under: inf})
}

func TestSagOfEveryEdge(t *testing.T) {
	list := edgeFloats()
	for _, curve := range list {
		for _, conic := range list {
			for i, x := range list {
				y := list[(i*8+3)%len(list)]
				f := impl.Face{Curve: curve, Conic: conic}
				holdSag(t, "edges", f, x, y, sagByWords(f, x, y))
				holdSag(t, "edges", f, x, nought(), sagByWords(f, x, 0))
			}
		}
	}
}

// TestSagOfDrawnFaces counts how often another order of the product, or a square that is not rounded by itself, would be seen.
func TestSagOfDrawnFaces(t *testing.T) {
	draw := numbers{state: 92}
	none, order, fused := 0, 0, 0
	for range 20000 {
		f := impl.Face{Curve: aroundNought(&draw, 1), Conic: -1 + aroundNought(&draw, 3)}
		if draw.below(4) == 0 {
			f.Conic = -float64(draw.below(3))
		}
		x, y := aroundNought(&draw, 1.5), aroundNought(&draw, 1.5)
		want := sagByWords(f, x, y)
		holdSag(t, "drawn", f, x, y, want)
		r := float64(x*x) + float64(y*y)
		if u := 1 - (1+f.Conic)*(f.Curve*f.Curve*r); want.Code != impl.OK {
			none++
		} else if math.Sqrt(u) != want.Under {
			order++
		}
		if math.FMA(x, x, float64(y*y)) != r {
			fused++
		}
	}
	if none < 1000 || order < 1000 || fused < 1000 {
		t.Error(none, order, fused)
	}
}

// TestSagLiesOnItsConic: the surface's equation is Curve (r + (1 + Conic) z z) = 2 z.
func TestSagLiesOnItsConic(t *testing.T) {
	draw := numbers{state: 93}
	for range 2000 {
		f := impl.Face{Curve: aroundNought(&draw, 1), Conic: -1 + aroundNought(&draw, 3)}
		x, y := aroundNought(&draw, 1), aroundNought(&draw, 1)
		s := impl.SagOf(f, x, y)
		if s.Code == impl.OK && !near(f.Curve*(x*x+y*y+(1+f.Conic)*s.Sag*s.Sag), 2*s.Sag) {
			t.Fatalf("%+v at %v, %v: %+v", f, x, y, s)
		}
		for _, other := range []impl.SagResult{impl.SagOf(f, -x, y), impl.SagOf(f, x, -y), impl.SagOf(f, y, x), impl.SagOf(f, -y, -x)} {
			if !sameSag(other, s) {
				t.Fatalf("%+v at %v, %v: %+v, mirrored %+v", f, x, y, s, other)
			}
		}
	}
}
