package tests

import (
	"math"
	"testing"

	"loop.example/g00049/impl"
)

func sameZ(a impl.Z, b impl.Z) bool {
	return sameFloat(a.Re, b.Re) && sameFloat(a.Im, b.Im)
}

func holdZ(t *testing.T, what string, got impl.Z, want impl.Z) {
	t.Helper()
	if !sameZ(got, want) {
		t.Errorf("%s: (%v, %v), want (%v, %v)", what, got.Re, got.Im, want.Re, want.Im)
	}
}

// partsOfZ are floats of each kind that products and quotients tell apart.
func partsOfZ() []float64 {
	list := []float64{math.NaN()}
	for _, size := range []float64{0, 5e-324, 0x1p-600, 0.1, 1, 3, 1e200, impl.LargestFloat, math.Inf(1)} {
		list = append(list, size, -size)
	}
	// A constant 0 has no sign to be turned.
	list[2] = math.Copysign(0, -1)
	return list
}

// everyZ are all pairs of those floats.
func everyZ() []impl.Z {
	list := []impl.Z{}
	for _, re := range partsOfZ() {
		for _, im := range partsOfZ() {
			list = append(list, impl.Z{Re: re, Im: im})
		}
	}
	return list
}

// drawnZ are numbers whose parts are of unlike sizes, none of them near the bounds.
func drawnZ(seed uint64, length int) []impl.Z {
	draw := numbers{state: seed}
	parts := unlikeSizes(&draw, 2*length)
	list := []impl.Z{}
	for i := range length {
		list = append(list, impl.Z{Re: parts[2*i], Im: parts[2*i+1]})
	}
	return list
}

// mulByWords is the product as the document tells it, each conversion a rounding of its own.
func mulByWords(a impl.Z, b impl.Z) impl.Z {
	return impl.Z{
		Re: float64(a.Re*b.Re) - float64(a.Im*b.Im),
		Im: float64(a.Re*b.Im) + float64(a.Im*b.Re),
	}
}

func addByWords(a impl.Z, b impl.Z) impl.Z {
	return impl.Z{Re: a.Re + b.Re, Im: a.Im + b.Im}
}

func oneOrNought(f float64) float64 {
	if math.IsInf(f, 0) {
		return math.Copysign(1, f)
	}
	return math.Copysign(0, f)
}

// plainByWords is the quotient ahead of its corrections.
func plainByWords(a impl.Z, b impl.Z) impl.Z {
	c, d := b.Re, b.Im
	if !(math.Abs(c) < math.Abs(d)) {
		r := d / c
		t := c + float64(r*d)
		return impl.Z{Re: (a.Re + float64(a.Im*r)) / t, Im: (a.Im - float64(a.Re*r)) / t}
	}
	r := c / d
	t := d + float64(r*c)
	return impl.Z{Re: (float64(a.Re*r) + a.Im) / t, Im: (float64(a.Im*r) - a.Re) / t}
}

func finite(f float64) bool {
	return !math.IsNaN(f) && !math.IsInf(f, 0)
}

func divByWords(a impl.Z, b impl.Z) impl.Z {
	c, d := b.Re, b.Im
	for _, f := range []float64{a.Re, a.Im, c, d} {
		if math.IsNaN(f) {
			return impl.Z{Re: math.NaN(), Im: math.NaN()}
		}
	}
	plain := plainByWords(a, b)
	if !math.IsNaN(plain.Re) || !math.IsNaN(plain.Im) {
		return plain
	}
	inf := math.Inf(1)
	if c == 0 && d == 0 {
		great := math.Copysign(inf, c)
		return impl.Z{Re: a.Re * great, Im: a.Im * great}
	}
	if !finite(a.Re) || !finite(a.Im) {
		if finite(c) && finite(d) {
			p, q := oneOrNought(a.Re), oneOrNought(a.Im)
			return impl.Z{Re: inf * (float64(p*c) + float64(q*d)), Im: inf * (float64(q*c) - float64(p*d))}
		}
		return plain
	}
	if !finite(c) || !finite(d) {
		u, v, zero := oneOrNought(c), oneOrNought(d), 0.0
		return impl.Z{Re: zero * (float64(a.Re*u) + float64(a.Im*v)), Im: zero * (float64(a.Im*u) - float64(a.Re*v))}
	}
	return plain
}

func TestEqualAsTheLanguageSays(t *testing.T) {
	for _, a := range everyZ() {
		for _, b := range everyZ() {
			want := a.Re == b.Re && a.Im == b.Im
			if impl.SameZ(a, b) != want || impl.SameZ(b, a) != want {
				t.Errorf("SameZ(%v, %v) is not %v", a, b, want)
			}
		}
	}
	below, inf, nan := math.Copysign(0, -1), math.Inf(1), math.NaN()
	for _, one := range []struct {
		a, b impl.Z
		want bool
	}{
		{impl.Z{}, impl.Z{}, true}, {impl.Z{}, impl.Z{Re: below, Im: below}, true}, {impl.Z{Re: below, Im: 1}, impl.Z{Re: 0, Im: 1}, true}, {impl.Z{Re: 1, Im: 2}, impl.Z{Re: 1, Im: 2}, true},
		{impl.Z{Re: 1, Im: 2}, impl.Z{Re: 2, Im: 1}, false}, {impl.Z{Re: 1, Im: 2}, impl.Z{Re: 1, Im: -2}, false}, {impl.Z{Re: 1, Im: 2}, impl.Z{Re: 3, Im: 2}, false},
		{impl.Z{Re: inf, Im: -inf}, impl.Z{Re: inf, Im: -inf}, true}, {impl.Z{Re: inf}, impl.Z{Re: -inf}, false},
		{impl.Z{Re: nan}, impl.Z{Re: nan}, false}, {impl.Z{Im: nan}, impl.Z{Im: nan}, false}, {impl.Z{Re: nan}, impl.Z{}, false},
		{impl.Z{Re: 1}, impl.Z{Re: math.Nextafter(1, 2)}, false}, {impl.Z{Im: 5e-324}, impl.Z{}, false},
	} {
		if impl.SameZ(one.a, one.b) != one.want || impl.SameZ(one.b, one.a) != one.want {
			t.Errorf("SameZ(%v, %v) is not %v", one.a, one.b, one.want)
		}
	}
}

func TestProductsTold(t *testing.T) {
	below, inf, nan := math.Copysign(0, -1), math.Inf(1), math.NaN()
	for _, one := range [][3]impl.Z{
		{{Re: 1, Im: 2}, {Re: 3, Im: -1}, {Re: 5, Im: 5}}, {{Im: 1}, {Im: 1}, {Re: -1}}, {{}, {Re: 5, Im: 7}, {}},
		{{Re: below, Im: below}, {Re: 1}, {Re: 0, Im: below}}, {{Re: below}, {Re: 1}, {Re: below, Im: 0}}, {{Re: -1}, {Re: 1}, {Re: -1, Im: 0}}, {{Re: -1, Im: below}, {Re: 1, Im: 0}, {Re: -1, Im: below}}, {{Re: -1}, {Re: 0, Im: 1}, {Re: below, Im: -1}},
		{{Re: inf}, {Re: 1}, {Re: inf, Im: nan}}, {{Re: inf, Im: inf}, {Re: 1, Im: 1}, {Re: nan, Im: inf}}, {{Re: inf}, {Re: inf, Im: 1}, {Re: inf, Im: nan}}, {{Im: inf}, {Re: 2, Im: -1}, {Re: inf, Im: inf}},
		{{Re: nan}, {Re: 1}, {Re: nan, Im: nan}}, {{Im: nan}, {Im: 1}, {Re: nan, Im: nan}},
		{{Re: 1e200}, {Re: 1e200, Im: -1e200}, {Re: inf, Im: -inf}}, {{Re: 1e200, Im: 1e200}, {Re: 1e200, Im: 1e200}, {Re: nan, Im: inf}},
		{{Re: 5e-324}, {Re: 0.5, Im: -0.5}, {Re: 0, Im: 0}},
		// A fused product would keep what the rounding of the other one lost.
		{{Re: 1 + 0x1p-30, Im: 1}, {Re: 1 - 0x1p-30, Im: 1}, {Re: 0, Im: 2}}, {{Re: 1, Im: 1 + 0x1p-30}, {Re: 1, Im: 1 - 0x1p-30}, {Re: 0, Im: 2}},
		{{Re: 1 + 0x1p-30, Im: -1}, {Re: 1, Im: 1 - 0x1p-30}, {Re: 2, Im: 0}}, {{Re: -1, Im: 1 + 0x1p-30}, {Re: 1 - 0x1p-30, Im: 1}, {Re: -2, Im: 0}},
	} {
		holdZ(t, "MulZ", impl.MulZ(one[0], one[1]), one[2])
		holdZ(t, "MulZ the other way", impl.MulZ(one[1], one[0]), one[2])
	}
}

func TestProductsOfEveryKind(t *testing.T) {
	for _, a := range everyZ() {
		for _, b := range everyZ() {
			got := impl.MulZ(a, b)
			if !sameZ(got, mulByWords(a, b)) || !sameZ(got, impl.MulZ(b, a)) {
				t.Errorf("MulZ(%v, %v) = %v, want %v, the other way %v", a, b, got, mulByWords(a, b), impl.MulZ(b, a))
			}
		}
	}
}

func TestProductsAreRoundedOneByOne(t *testing.T) {
	list := drawnZ(41, 2000)
	for i, a := range list {
		b := list[(i*7+1)%len(list)]
		want := impl.Z{Re: plus(times(a.Re, b.Re), -times(a.Im, b.Im)), Im: plus(times(a.Re, b.Im), times(a.Im, b.Re))}
		holdZ(t, "MulZ", impl.MulZ(a, b), want)
		holdZ(t, "MulZ the other way", impl.MulZ(b, a), want)
		holdFloat(t, "NormZ", impl.NormZ(a), plus(times(a.Re, a.Re), times(a.Im, a.Im)))
	}
}

func TestQuotientsTold(t *testing.T) {
	below, inf, nan := math.Copysign(0, -1), math.Inf(1), math.NaN()
	none := impl.Z{Re: nan, Im: nan}
	for _, one := range [][3]impl.Z{
		{{Re: 1}, {Im: 2}, {Re: 0, Im: -0.5}}, {{Re: 10, Im: 10}, {Re: 4, Im: -2}, {Re: 1, Im: 3}}, {{Re: 4, Im: 6}, {Re: 2}, {Re: 2, Im: 3}}, {{Re: 5, Im: 5}, {Re: 1, Im: 2}, {Re: 3, Im: -1}}, {{Re: 4, Im: 2}, {Re: 1, Im: 1}, {Re: 3, Im: -1}}, {{Re: 4, Im: 2}, {Re: -1, Im: 1}, {Re: -1, Im: -3}},
		{{Re: nan}, {Re: 1}, none}, {{Im: nan}, {Re: 1}, none}, {{Re: 1}, {Re: nan, Im: 1}, none}, {{Re: 1}, {Re: 1, Im: nan}, none},
		{{Re: nan, Im: inf}, {Re: 1}, none}, {{Re: inf, Im: nan}, {Re: 1, Im: 2}, none}, {{Re: 1, Im: nan}, {}, none}, {{Re: nan, Im: 1}, {Re: below}, none}, {{Re: 1}, {Re: inf, Im: nan}, none}, {{Re: 1}, {Re: nan, Im: inf}, none},
		{{Re: 1, Im: 2}, {}, {Re: inf, Im: inf}}, {{Re: 1, Im: -2}, {Im: below}, {Re: inf, Im: -inf}}, {{Re: 1, Im: 2}, {Re: below}, {Re: -inf, Im: -inf}}, {{Re: 1, Im: -2}, {Re: below, Im: below}, {Re: -inf, Im: inf}},
		{{}, {}, none}, {{Re: 1}, {}, {Re: inf, Im: nan}}, {{Im: 1}, {Re: below}, {Re: nan, Im: -inf}}, {{Re: inf, Im: -inf}, {}, {Re: inf, Im: -inf}}, {{Re: inf}, {Re: below}, {Re: -inf, Im: nan}},
		{{Re: inf, Im: inf}, {Re: 1}, {Re: inf, Im: inf}}, {{Re: inf, Im: -inf}, {Re: -1}, {Re: -inf, Im: inf}}, {{Re: inf, Im: inf}, {Im: 1}, {Re: inf, Im: -inf}}, {{Re: -inf, Im: inf}, {Re: 2, Im: below}, {Re: -inf, Im: inf}},
		// Only one part came out as NaN: there it stays.
		{{Re: inf, Im: inf}, {Re: 1, Im: 1}, {Re: inf, Im: nan}}, {{Re: inf, Im: -inf}, {Re: 1, Im: 1}, {Re: nan, Im: -inf}}, {{Re: inf, Im: 1}, {Re: 1}, {Re: inf, Im: nan}}, {{Re: 1, Im: inf}, {Re: 1}, {Re: nan, Im: inf}}, {{Re: inf, Im: 1}, {Im: 1}, {Re: nan, Im: -inf}},
		{{Re: inf, Im: 1}, {Re: 1, Im: 1}, {Re: inf, Im: -inf}},
		{{Re: 1, Im: 1}, {Re: inf}, {Re: 0, Im: 0}}, {{Re: 1, Im: -1}, {Im: inf}, {Re: below, Im: below}}, {{Re: 1, Im: 1}, {Re: inf, Im: inf}, {Re: 0, Im: 0}}, {{Re: 1, Im: 2}, {Re: inf, Im: -inf}, {Re: below, Im: 0}}, {{Re: -3, Im: 2}, {Re: inf, Im: inf}, {Re: below, Im: 0}}, {{Re: 3, Im: 2}, {Re: -inf, Im: inf}, {Re: below, Im: below}},
		{{Re: inf, Im: 1}, {Re: inf, Im: 1}, none}, {{Re: inf, Im: inf}, {Re: inf, Im: inf}, none}, {{Re: 1, Im: inf}, {Re: -inf, Im: inf}, none}, {{Re: inf, Im: inf}, {Re: 1, Im: -inf}, none},
		{{Re: 1e308, Im: 1e308}, {Re: 1e308, Im: 1e308}, {Re: nan, Im: 0}}, {{Re: 1e-320}, {Re: 1e-320}, {Re: 1, Im: 0}},
	} {
		holdZ(t, "DivZ", impl.DivZ(one[0], one[1]), one[2])
	}
}

func TestQuotientsOfEveryKind(t *testing.T) {
	for _, a := range everyZ() {
		for _, b := range everyZ() {
			if got := impl.DivZ(a, b); !sameZ(got, divByWords(a, b)) {
				t.Errorf("DivZ(%v, %v) = %v, want %v", a, b, got, divByWords(a, b))
			}
		}
	}
	list := drawnZ(42, 2000)
	for i, a := range list {
		b := list[(i*7+1)%len(list)]
		got := impl.DivZ(a, b)
		holdZ(t, "DivZ", got, divByWords(a, b))
		back := impl.MulZ(got, b)
		if far := math.Hypot(back.Re-a.Re, back.Im-a.Im); !(far <= 1e-14*math.Hypot(a.Re, a.Im)) {
			t.Errorf("DivZ(%v, %v) times the divisor is %v", a, b, back)
		}
	}
}

func TestNormsTold(t *testing.T) {
	inf, nan := math.Inf(1), math.NaN()
	for _, one := range []struct {
		z    impl.Z
		want float64
	}{
		{impl.Z{}, 0}, {impl.Z{Re: math.Copysign(0, -1), Im: math.Copysign(0, -1)}, 0}, {impl.Z{Re: 3, Im: 4}, 25}, {impl.Z{Re: -3, Im: -4}, 25}, {impl.Z{Re: 1e200}, inf}, {impl.Z{Im: 1e-200}, 0},
		{impl.Z{Re: inf, Im: 1}, inf}, {impl.Z{Im: -inf}, inf}, {impl.Z{Re: nan}, nan}, {impl.Z{Re: inf, Im: nan}, nan}, {impl.Z{Re: 1, Im: nan}, nan},
		{impl.Z{Re: 1, Im: 0x1p-27}, 1}, {impl.Z{Re: 0x1p-26, Im: 1}, 1 + 0x1p-52}, {impl.Z{Re: 1 + 0x1p-30, Im: 0x1p-27}, 1 + 0x1p-29},
	} {
		holdFloat(t, "NormZ", impl.NormZ(one.z), one.want)
	}
}

func TestNormIsNotFused(t *testing.T) {
	// 1 + 2^-27 squared is 1 + 2^-26 + 2^-54, of which the last goes off by rounding; the other square is half a last place, so that it would tip the sum over.
	small := 0x1p-27 * math.Sqrt2 / 2
	for _, z := range []impl.Z{{Re: 1 + 0x1p-27, Im: 0x1p-27}, {Re: 0x1p-27, Im: 1 + 0x1p-27}, {Re: 1 + 0x1p-27, Im: small}, {Re: small, Im: 1 + 0x1p-27}} {
		holdFloat(t, "NormZ", impl.NormZ(z), plus(times(z.Re, z.Re), times(z.Im, z.Im)))
	}
}
