package tests

import (
	"math"
	"slices"
	"strconv"
	"testing"

	"loop.example/g00049/impl"
)

// zLists are lists of none, of one, of noughts, of infinite ones and NaN, and drawn ones.
func zLists() [][]impl.Z {
	below, inf := math.Copysign(0, -1), math.Inf(1)
	lists := [][]impl.Z{
		nil, {}, {{Re: 1, Im: 2}}, {{Re: below, Im: below}}, {{Re: below, Im: below}, {Re: below, Im: below}}, {{Re: 1, Im: -1}, {Re: -1, Im: 1}}, {{Re: 1e16, Im: 1}, {Re: 1, Im: 1e16}, {Re: -1e16, Im: -1e16}}, {{Re: 1, Im: -1e16}, {Re: -1e16}, {Re: 1e16, Im: 1e16}},
		{{Re: inf, Im: -inf}}, {{Re: inf}, {Re: -inf, Im: 1}}, {{Re: math.NaN(), Im: 3}, {Re: 1, Im: 2}}, {{Re: 1}, {Im: math.NaN()}}, {{Re: impl.LargestFloat, Im: -impl.LargestFloat}, {Re: impl.LargestFloat, Im: -impl.LargestFloat}},
	}
	for length := range 20 {
		lists = append(lists, drawnZ(uint64(50+length), length))
	}
	return append(lists, everyZ())
}

func copyOfZ(list []impl.Z) []impl.Z {
	return append([]impl.Z{}, list...)
}

func TestSumsOfZInTheirOrder(t *testing.T) {
	for _, list := range zLists() {
		before, want := copyOfZ(list), impl.Z{}
		for _, z := range list {
			want = addByWords(want, z)
		}
		holdZ(t, "SumZ", impl.SumZ(list), want)
		if !slices.EqualFunc(list, before, sameZ) {
			t.Errorf("SumZ changed its list: %v, was %v", list, before)
		}
	}
}

func TestSumsOfZTold(t *testing.T) {
	below, inf, nan := math.Copysign(0, -1), math.Inf(1), math.NaN()
	for _, one := range []struct {
		list []impl.Z
		want impl.Z
	}{
		{nil, impl.Z{}}, {[]impl.Z{}, impl.Z{}}, {[]impl.Z{{Re: 3, Im: -4}}, impl.Z{Re: 3, Im: -4}}, {[]impl.Z{{Re: below, Im: below}}, impl.Z{}},
		{[]impl.Z{{Re: 1e16, Im: 1}, {Re: 1, Im: -1e16}, {Re: -1e16, Im: 1e16}}, impl.Z{}}, {[]impl.Z{{Re: 1e16, Im: 1e16}, {Re: -1e16, Im: -1e16}, {Re: 1, Im: 2}}, impl.Z{Re: 1, Im: 2}},
		{[]impl.Z{{Re: inf, Im: 1}, {Re: 2, Im: -inf}}, impl.Z{Re: inf, Im: -inf}}, {[]impl.Z{{Re: inf}, {Re: -inf, Im: 1}}, impl.Z{Re: nan, Im: 1}}, {[]impl.Z{{Re: 1, Im: nan}, {Re: 2, Im: 3}}, impl.Z{Re: 3, Im: nan}},
	} {
		holdZ(t, "SumZ", impl.SumZ(one.list), one.want)
	}
}

func polyByWords(list []impl.Z, z impl.Z) impl.Z {
	value := impl.Z{}
	for i := len(list) - 1; i >= 0; i-- {
		value = addByWords(mulByWords(value, z), list[i])
	}
	return value
}

func TestPolynomials(t *testing.T) {
	places := append(drawnZ(60, 20), everyZ()...)
	for _, list := range zLists() {
		before := copyOfZ(list)
		for _, z := range places {
			holdZ(t, "PolyZ", impl.PolyZ(list, z), polyByWords(list, z))
		}
		if !slices.EqualFunc(list, before, sameZ) {
			t.Errorf("PolyZ changed its list: %v, was %v", list, before)
		}
	}
}

func TestPolynomialsTold(t *testing.T) {
	below, inf, nan := math.Copysign(0, -1), math.Inf(1), math.NaN()
	for _, one := range []struct {
		list    []impl.Z
		z, want impl.Z
	}{
		{nil, impl.Z{Re: nan, Im: inf}, impl.Z{}}, {[]impl.Z{{Re: 3, Im: 4}}, impl.Z{Re: 7}, impl.Z{Re: 3, Im: 4}}, {[]impl.Z{{Re: 1}, {Re: 2}, {Re: 3}}, impl.Z{Re: 10}, impl.Z{Re: 321}}, {[]impl.Z{{Re: 1}, {}, {Re: 1}}, impl.Z{Im: 1}, impl.Z{}}, {[]impl.Z{{Im: 1}, {Re: 2}}, impl.Z{Re: 1, Im: 1}, impl.Z{Re: 2, Im: 3}},
		{[]impl.Z{{Re: below, Im: below}}, impl.Z{Re: 1, Im: 1}, impl.Z{Re: 0, Im: 0}}, {[]impl.Z{{Re: below, Im: below}}, impl.Z{Re: -1, Im: -1}, impl.Z{Re: 0, Im: below}},
		// What there is at first is 0, which is multiplied, too.
		{[]impl.Z{{Re: 3}}, impl.Z{Re: inf}, impl.Z{Re: nan, Im: nan}}, {[]impl.Z{{Re: 3}}, impl.Z{Re: 1, Im: nan}, impl.Z{Re: nan, Im: nan}},
	} {
		holdZ(t, "PolyZ", impl.PolyZ(one.list, one.z), one.want)
	}
}

// powByWords goes from digit to digit of the number's binary text, whose first is 1, but for that of 0.
func powByWords(z impl.Z, n int64) impl.Z {
	power := impl.Z{Re: 1}
	if n == 0 {
		return power
	}
	for _, digit := range strconv.FormatInt(n, 2) {
		power = mulByWords(power, power)
		if digit == '1' {
			power = mulByWords(power, z)
		}
	}
	return power
}

func TestPowers(t *testing.T) {
	list := append(everyZ(), impl.Z{Re: 0.6, Im: 0.8}, impl.Z{Re: 0.1, Im: 0.3}, impl.Z{Re: -1.1, Im: 0.7})
	for range 40 {
		n := int64(len(list))
		list = append(list, impl.Z{Re: math.Cos(float64(n)), Im: math.Sin(float64(n))})
	}
	exponents := []int64{63, 64, 65, 100, 1000, 65535, 65536, 524287, 524288, 699050, 999999, impl.MaxPower}
	for n := range int64(34) {
		exponents = append(exponents, n)
	}
	for _, z := range list {
		for _, n := range exponents {
			holdZ(t, "PowZ by "+strconv.FormatInt(n, 10), impl.PowZ(z, n), powByWords(z, n))
		}
		for _, n := range []int64{-1, -2, -impl.MaxPower, math.MinInt64, math.MinInt64 + 1, impl.MaxPower + 1, 1 << 20, 1 << 32, 1<<32 + 2, math.MaxInt64} {
			holdZ(t, "PowZ by "+strconv.FormatInt(n, 10), impl.PowZ(z, n), impl.Z{})
		}
		holdZ(t, "PowZ by 0", impl.PowZ(z, 0), impl.Z{Re: 1})
	}
}

func TestPowersTold(t *testing.T) {
	below, inf, nan := math.Copysign(0, -1), math.Inf(1), math.NaN()
	for _, one := range []struct {
		z    impl.Z
		n    int64
		want impl.Z
	}{
		{impl.Z{Im: 1}, 2, impl.Z{Re: -1}}, {impl.Z{Re: 2}, 10, impl.Z{Re: 1024}}, {impl.Z{Re: 1, Im: 1}, 4, impl.Z{Re: -4}}, {impl.Z{Re: 1, Im: 1}, 3, impl.Z{Re: -2, Im: 2}}, {impl.Z{}, 0, impl.Z{Re: 1}}, {impl.Z{}, 1, impl.Z{}}, {impl.Z{Re: 1}, impl.MaxPower, impl.Z{Re: 1}}, {impl.Z{Re: 2}, impl.MaxPower, impl.Z{Re: nan, Im: nan}}, {impl.Z{Re: 0.5}, impl.MaxPower, impl.Z{}},
		{impl.Z{Re: inf, Im: 1}, 1, impl.Z{Re: inf, Im: nan}}, {impl.Z{Re: below, Im: -1}, 1, impl.Z{Re: 0, Im: -1}}, {impl.Z{Re: below, Im: 1}, 1, impl.Z{Re: below, Im: 1}}, {impl.Z{Re: nan, Im: nan}, 0, impl.Z{Re: 1}}, {impl.Z{Re: nan}, 1, impl.Z{Re: nan, Im: nan}},
	} {
		holdZ(t, "PowZ", impl.PowZ(one.z, one.n), one.want)
	}
}
