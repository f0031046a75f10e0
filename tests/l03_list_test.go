package tests

import (
	"math"
	"math/big"
	"slices"
	"testing"

	"loop.example/g00049/impl"
)

// orderSlowly tells the order as the document lists its kinds, one after the other.
func orderSlowly(a float64, b float64) int64 {
	switch {
	case math.IsNaN(a) && math.IsNaN(b):
		return 0
	case math.IsNaN(a):
		return 1
	case math.IsNaN(b) || a < b:
		return -1
	case a > b:
		return 1
	case math.Signbit(a) == math.Signbit(b):
		return 0
	case math.Signbit(a):
		return -1
	}
	return 1
}

func TestOrderOfKinds(t *testing.T) {
	list := floatsInOrder()
	for i, a := range list {
		for j, b := range list {
			want := int64(0)
			if i < j {
				want = -1
			} else if i > j {
				want = 1
			}
			if got := impl.CompareFloats(a, b); got != want {
				t.Errorf("CompareFloats(%v, %v) = %d, want %d", a, b, got, want)
			}
		}
	}
}

func TestOrderIsTotal(t *testing.T) {
	list := anyFloats()
	for _, a := range list {
		for _, b := range list {
			got := impl.CompareFloats(a, b)
			if got != orderSlowly(a, b) || got != -impl.CompareFloats(b, a) {
				t.Errorf("CompareFloats(%v, %v) = %d", a, b, got)
			}
			if (got == 0) != sameFloat(a, b) {
				t.Errorf("CompareFloats(%v, %v) = %d, though equal ones are the same ones", a, b, got)
			}
		}
	}
}

// sortSlowly puts each float behind the last one that is not behind it.
func sortSlowly(list []float64) []float64 {
	sorted := []float64{}
	for _, f := range list {
		at := len(sorted)
		for at > 0 && orderSlowly(sorted[at-1], f) > 0 {
			at--
		}
		sorted = slices.Insert(sorted, at, f)
	}
	return sorted
}

func bitsOfList(list []float64) []uint64 {
	bits := []uint64{}
	for _, f := range list {
		bits = append(bits, math.Float64bits(f))
	}
	return bits
}

// floatLists are lists of none, of one, of equal ones, of every kind in and out of order, and long ones.
func floatLists() [][]float64 {
	zero := math.Copysign(0, -1)
	lists := [][]float64{
		nil, {}, {1}, {zero}, {math.NaN()}, {2, 1}, {1, 2}, {1, 1}, {0, zero}, {zero, 0}, {0, zero, 0, zero}, {math.NaN(), math.Inf(1), 0}, {3, -1, 2}, {2, 2, 1, 1, 2},
		{math.NaN(), 1, math.NaN(), math.Inf(-1), math.NaN()}, floatsInOrder(),
	}
	turned := floatsInOrder()
	slices.Reverse(turned)
	lists = append(lists, turned, anyFloats())
	draw := numbers{state: 11}
	for _, length := range []int{3, 7, 12, 13, 31, 32, 33, 100, 1000, 3000} {
		list := []float64{}
		for range length {
			list = append(list, float64(draw.below(int64(length))-int64(length/2)))
		}
		lists = append(lists, list)
	}
	long := make([]float64, 0, 3000)
	for _, bits := range drawnBits(12, 1500) {
		long = append(long, math.Float64frombits(bits), math.Float64frombits(bits))
	}
	return append(lists, long)
}

func TestSortKeepsEach(t *testing.T) {
	for i, list := range floatLists() {
		before := bitsOfList(list)
		got := impl.SortFloats(list)
		if !slices.Equal(bitsOfList(list), before) {
			t.Errorf("list %d is changed", i)
		}
		if !slices.EqualFunc(got, sortSlowly(list), sameFloat) {
			t.Errorf("SortFloats of list %d = %v", i, got)
		}
		if len(list) < 400 {
			apart(t, [][]float64{got}, [][]float64{list})
		}
		if again := impl.SortFloats(got); !slices.EqualFunc(again, got, sameFloat) {
			t.Errorf("list %d sorted again is %v", i, again)
		}
	}
}

func TestSortedListIsNewMemory(t *testing.T) {
	room := []float64{1, 2, 3, 9, 9}
	got := impl.SortFloats(room[:3])
	apart(t, [][]float64{got, impl.SortFloats(room[:3])}, [][]float64{room})
	got[0] = 7
	_ = append(got, 8)
	if !slices.Equal(room, []float64{1, 2, 3, 9, 9}) {
		t.Error(room)
	}
}

// rounded is a finite sum or product of its own rounding: 53 bits, ties to even. It knows no least exponent, so what it is given must not come near that.
func rounded(operation func(z *big.Float, x *big.Float, y *big.Float) *big.Float, a float64, b float64) float64 {
	z := new(big.Float).SetPrec(53).SetMode(big.ToNearestEven)
	f, _ := operation(z, big.NewFloat(a), big.NewFloat(b)).Float64()
	return f
}

func plus(a float64, b float64) float64 {
	return rounded((*big.Float).Add, a, b)
}

func times(a float64, b float64) float64 {
	return rounded((*big.Float).Mul, a, b)
}

func pairSlowly(list []float64) float64 {
	if len(list) == 0 {
		return 0
	}
	if len(list) == 1 {
		return list[0]
	}
	first := (len(list) - len(list)%2) / 2
	return plus(pairSlowly(list[:first]), pairSlowly(list[first:]))
}

// unlikeSizes draws floats of unlike sizes, so that nearly every sum is rounded.
func unlikeSizes(draw *numbers, length int) []float64 {
	list := []float64{}
	for range length {
		list = append(list, math.Ldexp(float64(draw.next()), int(draw.below(80))-100))
	}
	return list
}

func TestSumsInTheirOrder(t *testing.T) {
	draw := numbers{state: 21}
	for length := range 70 {
		list := unlikeSizes(&draw, length)
		before := bitsOfList(list)
		sum := 0.0
		for _, f := range list {
			sum = plus(sum, f)
		}
		holdFloat(t, "SumFloats", impl.SumFloats(list), sum)
		holdFloat(t, "PairFloats", impl.PairFloats(list), pairSlowly(list))
		if !slices.Equal(bitsOfList(list), before) {
			t.Errorf("a list of %d is changed", length)
		}
	}
}

func TestProductsAreRoundedAheadOfAdding(t *testing.T) {
	draw := numbers{state: 22}
	for length := range 40 {
		for more := range 3 {
			a, b := unlikeSizes(&draw, length), unlikeSizes(&draw, length+more)
			sum := 0.0
			for i := range a {
				sum = plus(sum, times(a[i], b[i]))
			}
			holdFloat(t, "DotFloats", impl.DotFloats(a, b), sum)
			holdFloat(t, "DotFloats the other way", impl.DotFloats(b, a), sum)
		}
	}
	holdFloat(t, "a fused product", impl.DotFloats([]float64{-1, 1 + 0x1p-30}, []float64{1, 1 - 0x1p-30}), 0)
	holdFloat(t, "a fused product", impl.DotFloats([]float64{0.1, -1}, []float64{10, 1}), 0)
	holdFloat(t, "a product too great", impl.DotFloats([]float64{-impl.LargestFloat, 2}, []float64{1, impl.LargestFloat}), math.Inf(1))
}

// told is a list, and what SumFloats and PairFloats are of it.
type told struct {
	list []float64
	sum  float64
	pair float64
}

func TestSumsTold(t *testing.T) {
	zero, inf, nan := math.Copysign(0, -1), math.Inf(1), math.NaN()
	const most, great = impl.LargestFloat, 1e16
	for _, one := range []told{
		{nil, 0, 0}, {[]float64{}, 0, 0}, {[]float64{5}, 5, 5}, {[]float64{zero}, 0, zero}, {[]float64{zero, zero}, 0, zero}, {[]float64{zero, 0}, 0, 0}, {[]float64{zero, zero, zero}, 0, zero},
		{[]float64{1, -1}, 0, 0}, {[]float64{1, 2, 3}, 6, 6},
		{[]float64{great, 1, -great}, 0, 0}, {[]float64{1, -great, great}, 0, 1}, {[]float64{great, 1, 1}, great, great + 2}, {[]float64{1, 1, great}, great + 2, great},
		{[]float64{great, 1, 1, -great}, 0, 0}, {[]float64{great, -great, 1, 1}, 2, 2}, {[]float64{1, 1, great, -great}, 2, 2}, {[]float64{1, great, -great, 1}, 1, 0},
		{[]float64{1, great, 1, 1, 1}, great, great + 4}, {[]float64{great, -great, 1, great, -great}, 0, 1},
		{[]float64{most, most}, inf, inf}, {[]float64{most, most, -most}, inf, most}, {[]float64{-most, -most, most}, -inf, -most}, {[]float64{most, most, -most, -most}, inf, nan},
		{[]float64{inf}, inf, inf}, {[]float64{inf, inf}, inf, inf}, {[]float64{inf, 1, -inf}, nan, nan}, {[]float64{-inf, -1}, -inf, -inf}, {[]float64{nan}, nan, nan}, {[]float64{1, nan, 2}, nan, nan}, {[]float64{nan, inf}, nan, nan},
		{[]float64{5e-324, 5e-324}, 1e-323, 1e-323}, {[]float64{5e-324, -5e-324}, 0, 0},
	} {
		holdFloat(t, "SumFloats", impl.SumFloats(one.list), one.sum)
		holdFloat(t, "PairFloats", impl.PairFloats(one.list), one.pair)
		ones := slices.Repeat([]float64{1}, len(one.list))
		holdFloat(t, "DotFloats with ones", impl.DotFloats(one.list, ones), one.sum)
		holdFloat(t, "DotFloats of ones", impl.DotFloats(append(ones, nan), one.list), one.sum)
	}
}

func TestDotsTold(t *testing.T) {
	zero, inf, nan := math.Copysign(0, -1), math.Inf(1), math.NaN()
	for _, one := range []struct {
		a, b []float64
		want float64
	}{
		{nil, nil, 0}, {nil, []float64{nan}, 0}, {[]float64{inf}, nil, 0}, {[]float64{2}, []float64{3}, 6}, {[]float64{1, 2, 3}, []float64{4, 5, 6}, 32},
		{[]float64{1, 2, nan}, []float64{3, 4}, 11}, {[]float64{1, 2}, []float64{3, 4, inf, nan}, 11},
		{[]float64{zero}, []float64{1}, 0}, {[]float64{zero, zero}, []float64{1, 1}, 0}, {[]float64{-1}, []float64{0}, 0},
		{[]float64{inf}, []float64{0}, nan}, {[]float64{inf}, []float64{-2}, -inf}, {[]float64{inf, inf}, []float64{1, -1}, nan}, {[]float64{nan}, []float64{0}, nan},
		{[]float64{5e-324}, []float64{0.5}, 0}, {[]float64{5e-324, 5e-324}, []float64{0.5, 0.5}, 0}, {[]float64{5e-324}, []float64{0.75}, 5e-324},
		{[]float64{1e16, 1, 1e16}, []float64{1, 1, -1}, 0}, {[]float64{1e16, 1e16, 1}, []float64{1, -1, 1}, 1},
		{[]float64{1e200, 1}, []float64{1e200, 1}, inf}, {[]float64{1e200, 1e200}, []float64{1e200, -1e200}, nan},
	} {
		a, b := bitsOfList(one.a), bitsOfList(one.b)
		holdFloat(t, "DotFloats", impl.DotFloats(one.a, one.b), one.want)
		holdFloat(t, "DotFloats the other way", impl.DotFloats(one.b, one.a), one.want)
		if !slices.Equal(bitsOfList(one.a), a) || !slices.Equal(bitsOfList(one.b), b) {
			t.Errorf("the lists of DotFloats are changed: %v %v", one.a, one.b)
		}
	}
}

func TestLongSums(t *testing.T) {
	tenths := slices.Repeat([]float64{0.1}, 1<<16)
	holdFloat(t, "PairFloats of a power of two of them", impl.PairFloats(tenths), 0.1*(1<<16))
	if sum := impl.SumFloats(tenths); sum == 0.1*(1<<16) || math.Abs(sum-6553.6) > 1e-6 {
		t.Error("SumFloats is not one after the other:", sum)
	}
}
