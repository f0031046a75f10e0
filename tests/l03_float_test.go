package tests

import (
	"math"
	"math/big"
	"testing"

	"loop.example/g00049/impl"
)

const signOfFloat = uint64(1) << 63

// sizesInOrder are the bits of floats from +0 up to the infinite one, each greater than the one ahead of it; floats are asked for by their own bits here, not by those of the program.
func sizesInOrder() []uint64 {
	return []uint64{
		0, 1, 2, 3, 1 << 51, impl.Hidden - 2, impl.Hidden - 1, impl.Hidden, impl.Hidden + 1, impl.Hidden + 2, 2*impl.Hidden - 1, 2 * impl.Hidden,
		math.Float64bits(1e-300), math.Float64bits(0x1p-150), math.Float64bits(0x1p-149), math.Float64bits(1e-10), math.Float64bits(0.5),
		math.Float64bits(1) - 1, math.Float64bits(1), math.Float64bits(1) + 1, math.Float64bits(math.Sqrt2), math.Float64bits(2) - 1, math.Float64bits(2), math.Float64bits(3),
		math.Float64bits(1<<53 - 1), math.Float64bits(1 << 53), math.Float64bits(1<<53 + 2), math.Float64bits(math.MaxFloat32), math.Float64bits(1e300),
		impl.InfBits - 2, impl.InfBits - 1, impl.InfBits,
	}
}

// floatsInOrder are the floats that CompareFloats tells apart, in its order.
func floatsInOrder() []float64 {
	sizes := sizesInOrder()
	list := []float64{}
	for i := len(sizes) - 1; i >= 0; i-- {
		list = append(list, math.Float64frombits(sizes[i]|signOfFloat))
	}
	for _, bits := range sizes {
		list = append(list, math.Float64frombits(bits))
	}
	return append(list, math.NaN())
}

// bitsOfNaNs are NaNs with the sign's bit and without it, with fractions of whatever bits.
func bitsOfNaNs() []uint64 {
	list := []uint64{}
	for _, fraction := range []uint64{1, 2, 3, 1 << 50, 1<<51 - 1, 1 << 51, 1<<51 + 1, 1<<52 - 2, 1<<52 - 1, 0x123456789ABCD} {
		list = append(list, impl.InfBits+fraction, signOfFloat|impl.InfBits+fraction)
	}
	return list
}

// drawnBits are bits of any float, NaN being rare among them.
func drawnBits(seed uint64, count int) []uint64 {
	draw := numbers{state: seed}
	list := []uint64{}
	for range count {
		list = append(list, uint64(draw.next()))
	}
	return list
}

// anyFloats are the kinds in their order, NaNs of whatever bits, and drawn ones.
func anyFloats() []float64 {
	list := floatsInOrder()
	for _, bits := range bitsOfNaNs() {
		list = append(list, math.Float64frombits(bits))
	}
	for _, bits := range drawnBits(3, 200) {
		list = append(list, math.Float64frombits(bits))
	}
	return list
}

// sameFloat goes by bits, all NaNs being one.
func sameFloat(a float64, b float64) bool {
	return math.IsNaN(a) && math.IsNaN(b) || math.Float64bits(a) == math.Float64bits(b)
}

func holdFloat(t *testing.T, what string, got float64, want float64) {
	t.Helper()
	if !sameFloat(got, want) {
		t.Errorf("%s: %v (%X), want %v (%X)", what, got, math.Float64bits(got), want, math.Float64bits(want))
	}
}

// builtFloat makes the float of a sign, an exponent's and a fraction's bits by doubling and halving, which lose nothing as long as what comes of them is a float.
func builtFloat(bits uint64) float64 {
	exponent, fraction := int(bits>>52&2047), bits&(impl.Hidden-1)
	if exponent == 2047 && fraction != 0 {
		return math.NaN()
	}
	f := float64(fraction)
	if exponent > 0 {
		f += impl.Hidden
	}
	for range max(exponent, 1) - 1075 {
		f *= 2
	}
	for range 1075 - max(exponent, 1) {
		f /= 2
	}
	if bits&signOfFloat != 0 {
		f = -f
	}
	return f
}

func exact(f float64) *big.Rat {
	return new(big.Rat).SetFloat64(f)
}

func TestFloatBounds(t *testing.T) {
	if impl.Hidden != 1<<52 || float64(impl.LargestFloat) != math.MaxFloat64 || impl.NaNBits != 2047<<52+1<<51 || impl.InfBits != 2047<<52 {
		t.Error("bounds")
	}
}

func TestFloatExamples(t *testing.T) {
	if bits := impl.FloatBits(impl.SqrtFloat(2)); bits != 0x3FF6A09E667F3BCD {
		t.Errorf("%X", bits)
	}
	if above := impl.NextFloat(1) - 1; above != 0x1p-52 {
		t.Error(above)
	}
}

func TestBitsOfFloats(t *testing.T) {
	told := []struct {
		f    float64
		bits uint64
	}{
		{0, 0}, {math.Copysign(0, -1), 1 << 63}, {1, 1023 << 52}, {-1, 3071 << 52}, {2, 1024 << 52}, {1.5, 1023<<52 + 1<<51}, {-0.75, 3070<<52 + 1<<51},
		{5e-324, 1}, {-5e-324, 1<<63 + 1}, {0x1p-1022, 1 << 52}, {0x1p-1022 - 0x1p-1074, 1<<52 - 1}, {0x1p-1022 + 0x1p-1074, 1<<52 + 1}, {-0x1p-1022, 2049 << 52},
		{impl.LargestFloat, impl.InfBits - 1}, {-impl.LargestFloat, 1<<63 + impl.InfBits - 1}, {math.Inf(1), impl.InfBits}, {math.Inf(-1), 1<<63 + impl.InfBits}, {0.1, 0x3FB999999999999A},
	}
	for _, one := range told {
		if got := impl.FloatBits(one.f); got != one.bits {
			t.Errorf("FloatBits(%v) = %X, want %X", one.f, got, one.bits)
		}
		holdFloat(t, "FloatOf", impl.FloatOf(one.bits), one.f)
	}
}

func TestBitsAreToldBack(t *testing.T) {
	list := drawnBits(1, 2000)
	for _, bits := range sizesInOrder() {
		list = append(list, bits, bits|signOfFloat)
	}
	for _, bits := range list {
		f := impl.FloatOf(bits)
		holdFloat(t, "FloatOf", f, builtFloat(bits))
		if math.IsNaN(f) {
			continue
		}
		if got := impl.FloatBits(f); got != bits {
			t.Errorf("FloatBits(FloatOf(%X)) = %X", bits, got)
		}
	}
}

func TestNaNsAreOne(t *testing.T) {
	if bits := math.Float64bits(impl.FloatOf(impl.NaNBits)); bits != impl.NaNBits {
		t.Errorf("FloatOf(NaNBits) has the bits %X", bits)
	}
	for _, bits := range bitsOfNaNs() {
		if f := impl.FloatOf(bits); !math.IsNaN(f) {
			t.Errorf("FloatOf(%X) = %v", bits, f)
		}
		f := math.Float64frombits(bits)
		if got := impl.FloatBits(f); got != impl.NaNBits {
			t.Errorf("FloatBits of the NaN %X = %X", bits, got)
		}
		for _, other := range []float64{impl.Narrow(f), impl.SqrtFloat(f), impl.NextFloat(f)} {
			if got := impl.FloatBits(other); got != impl.NaNBits {
				t.Errorf("what comes of the NaN %X is %v", bits, other)
			}
		}
	}
}

func TestNarrowTold(t *testing.T) {
	const most, least = math.MaxFloat32, 0x1p-149
	inf := math.Inf(1)
	told := [][2]float64{
		{0, 0}, {1, 1}, {1.5, 1.5}, {0x1p24, 0x1p24}, {inf, inf}, {0.1, 0x1.99999Ap-4}, {1e300, inf}, {impl.LargestFloat, inf}, {5e-324, 0},
		// Ties between neighbours of 32 bits go to the even one, and what lies a little off them to the nearer one.
		{1 + 0x1p-24, 1}, {1 + 0x1p-24 + 0x1p-52, 1 + 0x1p-23}, {1 + 0x3p-24, 1 + 0x2p-23}, {1 + 0x3p-24 - 0x1p-52, 1 + 0x1p-23}, {1 - 0x1p-25, 1}, {1 - 0x3p-25, 1 - 0x1p-23},
		{0x1p24 + 1, 0x1p24}, {0x1p24 + 3, 0x1p24 + 4},
		// The greatest of 32 bits, and half a step above it.
		{most, most}, {most + 0x1p102, most}, {most + 0x1p103 - 0x1p75, most}, {most + 0x1p103, inf}, {0x1p128, inf},
		// The least of 32 bits, and half of it; those below 2^-126 have fewer bits.
		{least, least}, {least / 2, 0}, {least/2 + 0x1p-202, least}, {least * 3 / 2, 2 * least}, {least * 5 / 2, 2 * least}, {0x1p-126 - 0x1p-150, 0x1p-126}, {0x1p-126 - 0x3p-150, 0x1p-126 - 0x1p-148}, {0x1p-126, 0x1p-126},
	}
	for _, one := range told {
		holdFloat(t, "Narrow", impl.Narrow(one[0]), one[1])
		holdFloat(t, "Narrow below 0", impl.Narrow(math.Copysign(one[0], -1)), math.Copysign(one[1], -1))
	}
	holdFloat(t, "Narrow of NaN", impl.Narrow(math.NaN()), math.NaN())
}

func TestNarrowIsNearest(t *testing.T) {
	draw := numbers{state: 5}
	for range 3000 {
		exponent := uint64(1023 - 160 + draw.below(300))
		f := math.Float64frombits(uint64(draw.next())&(signOfFloat|impl.Hidden-1) | exponent<<52)
		near, _ := exact(f).Float32()
		holdFloat(t, "Narrow", impl.Narrow(f), math.Copysign(float64(near), f))
		holdFloat(t, "Narrow again", impl.Narrow(impl.Narrow(f)), impl.Narrow(f))
	}
}

func TestRootsTold(t *testing.T) {
	inf, below := math.Inf(1), math.Copysign(0, -1)
	told := [][2]float64{
		{0, 0}, {below, below}, {1, 1}, {4, 2}, {9, 3}, {0.25, 0.5}, {2.25, 1.5}, {0x1p-1022, 0x1p-511}, {0x1p-1074, 0x1p-537}, {0x1p1022, 0x1p511}, {inf, inf},
		{impl.LargestFloat, 0x1p512 - 0x1p459}, {1 - 0x1p-53, 1 - 0x1p-53}, {1 + 0x1p-52, 1}, {1 + 0x1p-51, 1 + 0x1p-52},
		{-1, math.NaN()}, {-4, math.NaN()}, {-5e-324, math.NaN()}, {-0x1p-1022, math.NaN()}, {-impl.LargestFloat, math.NaN()}, {-inf, math.NaN()}, {math.NaN(), math.NaN()},
	}
	for _, one := range told {
		holdFloat(t, "SqrtFloat", impl.SqrtFloat(one[0]), one[1])
	}
	for side := 1.0; side < 200; side++ {
		holdFloat(t, "SqrtFloat of a square", impl.SqrtFloat(side*side), side)
	}
}

// nearestRoot asks with whole fractions whether f lies between the squares of the two halfway points around the root. (No root of a float lies on one.)
func nearestRoot(f float64, root float64) bool {
	middle := func(other uint64) *big.Rat {
		m := new(big.Rat).Add(exact(root), exact(math.Float64frombits(other)))
		m.Quo(m, big.NewRat(2, 1))
		return m.Mul(m, m)
	}
	bits, x := math.Float64bits(root), exact(f)
	return middle(bits-1).Cmp(x) < 0 && x.Cmp(middle(bits+1)) < 0
}

func TestRootIsNearest(t *testing.T) {
	list := []float64{5e-324, 1e-323, 0x1p-1022, impl.LargestFloat, 2, 3, 5, 6, 7, 8, 10, 99, 101, 1e16 + 2, 0.1}
	for _, bits := range drawnBits(7, 3000) {
		list = append(list, math.Float64frombits(bits&^signOfFloat))
	}
	for _, bits := range drawnBits(8, 300) {
		list = append(list, math.Float64frombits(bits%impl.Hidden+1))
	}
	for _, f := range list {
		if math.IsNaN(f) || math.IsInf(f, 0) {
			continue
		}
		if root := impl.SqrtFloat(f); !(root > 0) || math.IsInf(root, 0) || !nearestRoot(f, root) {
			t.Errorf("SqrtFloat(%v) = %v is not the nearest", f, root)
		}
	}
}

func TestNextFloatTold(t *testing.T) {
	inf, below := math.Inf(1), math.Copysign(0, -1)
	told := [][2]float64{
		{0, 5e-324}, {below, 5e-324}, {5e-324, 1e-323}, {-5e-324, below}, {-1e-323, -5e-324}, {impl.LargestFloat, inf}, {-impl.LargestFloat, 0x1p971 - float64(impl.LargestFloat)},
		{inf, inf}, {-inf, -impl.LargestFloat}, {math.NaN(), math.NaN()}, {1, 1 + 0x1p-52}, {1 - 0x1p-53, 1}, {-1, 0x1p-53 - 1}, {-1 - 0x1p-52, -1}, {2 - 0x1p-52, 2}, {-2, 0x1p-52 - 2},
		{0x1p-1022 - 0x1p-1074, 0x1p-1022}, {-0x1p-1022, 0x1p-1074 - 0x1p-1022}, {0x1p53, 0x1p53 + 2}, {-0x1p53, 1 - 0x1p53},
	}
	for _, one := range told {
		holdFloat(t, "NextFloat", impl.NextFloat(one[0]), one[1])
	}
}

func TestNothingLiesBetween(t *testing.T) {
	for _, f := range anyFloats() {
		next := impl.NextFloat(f)
		if math.IsNaN(f) || math.IsInf(f, 0) || math.IsInf(next, 0) {
			continue
		}
		if !(next > f) {
			t.Errorf("NextFloat(%v) = %v is not above", f, next)
		}
		middle := new(big.Rat).Add(exact(f), exact(next))
		if between, _ := middle.Quo(middle, big.NewRat(2, 1)).Float64(); between != f && between != next {
			t.Errorf("%v lies between %v and NextFloat's %v", between, f, next)
		}
		holdFloat(t, "back from NextFloat", -impl.NextFloat(-next), math.Copysign(f, next))
	}
}
