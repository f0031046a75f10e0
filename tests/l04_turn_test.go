package tests

import (
	"math"
	"strconv"
	"testing"

	"loop.example/g00049/impl"
)

func rootByWords(z impl.Z) impl.Z {
	h := math.Sqrt(float64(z.Re*z.Re) + float64(z.Im*z.Im))
	t := math.Sqrt(0.5 * (math.Abs(z.Re) + h))
	if math.IsNaN(t) || t <= 0 {
		return impl.Z{Re: 0, Im: z.Im}
	}
	if z.Re >= 0 {
		return impl.Z{Re: t, Im: z.Im / (2 * t)}
	}
	return impl.Z{Re: math.Abs(z.Im / (2 * t)), Im: math.Copysign(t, z.Im)}
}

func TestRootsOfZTold(t *testing.T) {
	below, inf, nan := math.Copysign(0, -1), math.Inf(1), math.NaN()
	for _, one := range [][2]impl.Z{
		{{Re: 4}, {Re: 2}}, {{Re: 4, Im: below}, {Re: 2, Im: below}}, {{Re: -4}, {Im: 2}}, {{Re: -4, Im: below}, {Re: 0, Im: -2}}, {{Re: 3, Im: 4}, {Re: 2, Im: 1}}, {{Re: 3, Im: -4}, {Re: 2, Im: -1}}, {{Re: -3, Im: 4}, {Re: 1, Im: 2}}, {{Re: -3, Im: -4}, {Re: 1, Im: -2}},
		{{Im: 2}, {Re: 1, Im: 1}}, {{Im: -2}, {Re: 1, Im: -1}}, {{Re: below, Im: 2}, {Re: 1, Im: 1}}, {{Re: below, Im: -2}, {Re: 1, Im: -1}},
		{{}, {}}, {{Im: below}, {Re: 0, Im: below}}, {{Re: below}, {}}, {{Re: below, Im: below}, {Re: 0, Im: below}},
		// Squares too small for NormZ are 0, those too great infinite.
		{{Im: 1e-200}, {Re: 0, Im: 1e-200}}, {{Im: -1e-200}, {Re: 0, Im: -1e-200}}, {{Re: below, Im: 1e-200}, {Re: 0, Im: 1e-200}}, {{Re: 0x1p-599}, {Re: 0x1p-300}}, {{Re: -0x1p-599, Im: 0x1p-599}, {Re: 0x1p-300, Im: 0x1p-300}}, {{Re: 5e-324}, {Re: 0, Im: 0}}, {{Re: 5e-324, Im: -3e-320}, {Re: 0, Im: -3e-320}}, {{Re: 1e-323}, {Re: 0x1p-537, Im: 0}},
		{{Re: 1e200}, {Re: inf, Im: 0}}, {{Re: 1e200, Im: -1}, {Re: inf, Im: below}}, {{Re: -1e200, Im: -1}, {Re: 0, Im: -inf}}, {{Im: 1e200}, {Re: inf, Im: 0}},
		{{Re: inf}, {Re: inf, Im: 0}}, {{Re: -inf, Im: below}, {Re: 0, Im: -inf}}, {{Re: -inf, Im: 1}, {Re: 0, Im: inf}}, {{Im: inf}, {Re: inf, Im: nan}}, {{Re: -1, Im: -inf}, {Re: nan, Im: -inf}}, {{Re: inf, Im: inf}, {Re: inf, Im: nan}},
		{{Re: nan, Im: 5}, {Re: 0, Im: 5}}, {{Re: nan, Im: below}, {Re: 0, Im: below}}, {{Re: 5, Im: nan}, {Re: 0, Im: nan}}, {{Re: -5, Im: nan}, {Re: 0, Im: nan}}, {{Re: inf, Im: nan}, {Re: 0, Im: nan}}, {{Re: nan, Im: -inf}, {Re: 0, Im: -inf}},
	} {
		holdZ(t, "SqrtZ", impl.SqrtZ(one[0]), one[1])
	}
}

func TestRootsOfZOfEveryKind(t *testing.T) {
	for _, z := range everyZ() {
		holdZ(t, "SqrtZ", impl.SqrtZ(z), rootByWords(z))
	}
	for _, z := range drawnZ(43, 3000) {
		root := impl.SqrtZ(z)
		holdZ(t, "SqrtZ", root, rootByWords(z))
		if square := mulByWords(root, root); !(math.Hypot(square.Re-z.Re, square.Im-z.Im) <= 1e-14*math.Hypot(z.Re, z.Im)) {
			t.Errorf("SqrtZ(%v) = %v, whose square is %v", z, root, square)
		}
		if root.Re < 0 || math.Signbit(root.Im) != math.Signbit(z.Im) {
			t.Errorf("SqrtZ(%v) = %v lies on the wrong side", z, root)
		}
	}
}

// rootsByWords has u_k at place k.
func rootsByWords() []impl.Z {
	roots := []impl.Z{{}, {Re: -1}, {Im: 1}}
	for k := 2; k < 20; k++ {
		c, s := roots[k].Re, roots[k].Im
		x := math.Sqrt((1 + c) / 2)
		roots = append(roots, impl.Z{Re: x, Im: s / (x + x)})
	}
	return roots
}

// turnByWords goes from the highest of twenty digits of t's text to the lowest.
func turnByWords(roots []impl.Z, t int64) impl.Z {
	part := t % 1048576
	if part < 0 {
		part += 1048576
	}
	product := impl.Z{Re: 1}
	for k, digit := range strconv.FormatInt(part+1048576, 2) {
		if k > 0 && digit == '1' {
			product = mulByWords(product, roots[k])
		}
	}
	return product
}

// parts are t of every kind: noughts, powers of 2, quarters, those around whole turns and around the bounds, and drawn ones.
func parts() []int64 {
	list := []int64{0, 1, 2, 3, 699050, 349525, math.MinInt64, math.MinInt64 + 1, math.MinInt64 + 777777, math.MaxInt64, math.MaxInt64 - 1, math.MaxInt64 - 1048575}
	for k := range 63 {
		list = append(list, 1<<k, -1<<k, 1<<k-1, 1<<k+1, -1<<k+1, -1<<k-1)
	}
	for eighth := int64(-40); eighth <= 40; eighth++ {
		list = append(list, eighth*impl.Turn/8, eighth*impl.Turn/8+1, eighth*impl.Turn/8-1)
	}
	draw := numbers{state: 44}
	for range 3000 {
		list = append(list, draw.next(), draw.below(impl.Turn))
	}
	return list
}

func TestTurnsTold(t *testing.T) {
	below := math.Copysign(0, -1)
	half := math.Sqrt(0.5)
	for _, one := range []struct {
		t    int64
		want impl.Z
	}{
		{0, impl.Z{Re: 1}}, {impl.Turn / 4, impl.Z{Im: 1}}, {impl.Turn / 2, impl.Z{Re: -1}}, {3 * impl.Turn / 4, impl.Z{Re: below, Im: -1}}, {-impl.Turn / 4, impl.Z{Re: below, Im: -1}}, {-impl.Turn / 2, impl.Z{Re: -1}}, {-3 * impl.Turn / 4, impl.Z{Im: 1}},
		{impl.Turn, impl.Z{Re: 1}}, {-impl.Turn, impl.Z{Re: 1}}, {7 * impl.Turn, impl.Z{Re: 1}}, {math.MinInt64, impl.Z{Re: 1}}, {impl.Turn / 8, impl.Z{Re: half, Im: 1 / (half + half)}},
	} {
		holdZ(t, "TurnZ", impl.TurnZ(one.t), one.want)
	}
	holdZ(t, "TurnZ of the greatest", impl.TurnZ(math.MaxInt64), impl.TurnZ(impl.Turn-1))
	holdZ(t, "TurnZ of -1", impl.TurnZ(-1), impl.TurnZ(impl.Turn-1))
}

func TestTurnsAreProductsOfRoots(t *testing.T) {
	roots := rootsByWords()
	for k := 1; k <= 20; k++ {
		holdZ(t, "TurnZ of a power of 2", impl.TurnZ(impl.Turn>>k), mulByWords(impl.Z{Re: 1}, roots[k]))
	}
	for _, part := range parts() {
		got := impl.TurnZ(part)
		holdZ(t, "TurnZ of "+strconv.FormatInt(part, 10), got, turnByWords(roots, part))
		angle := 2 * math.Pi * float64(part&(impl.Turn-1)) / impl.Turn
		if far := math.Hypot(got.Re-math.Cos(angle), got.Im-math.Sin(angle)); !(far < 1e-14) {
			t.Errorf("TurnZ(%d) = %v is %v off the circle's place", part, got, far)
		}
	}
}

func TestTurnsGoRound(t *testing.T) {
	for _, part := range parts() {
		if part > math.MaxInt64-3*impl.Turn || part < math.MinInt64+3*impl.Turn {
			part /= 2
		}
		one := impl.TurnZ(part)
		for _, more := range []int64{impl.Turn, -impl.Turn, 3 * impl.Turn, -2 * impl.Turn} {
			holdZ(t, "turns more", impl.TurnZ(part+more), one)
		}
		for _, more := range []int64{impl.Turn / 2, -impl.Turn / 2, 5 * impl.Turn / 2} {
			if half := impl.TurnZ(part + more); half.Re != -one.Re || half.Im != -one.Im {
				t.Errorf("TurnZ(%d) = %v, half a turn more is %v", part, one, half)
			}
		}
	}
}
