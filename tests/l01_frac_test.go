package tests

import (
	"math"
	"math/big"
	"testing"

	"loop.example/g00049/impl"
)

const tenTo18 = 1000000000000000000

func frac(num int64, den int64) impl.Frac {
	return impl.Frac{Num: num, Den: den}
}

// rightFracs are right fractions, those at the bounds among them.
func rightFracs() []impl.Frac {
	const m = impl.MaxNum
	list := []impl.Frac{
		frac(0, 1), frac(1, 1), frac(-1, 1), frac(m, 1), frac(-m, 1), frac(1, m), frac(-1, m),
		frac(m-1, m), frac(1-m, m), frac(m, m-1), frac(-m, m-1), frac(m-1, 1), frac(1, m-1),
		frac(1, 2), frac(-1, 2), frac(1, 3), frac(2, 3), frac(-3, 2), frac(7, 4), frac(-22, 7),
		frac(m, 7), frac(-m, 999999937), frac(999999937, m), frac(31623, 31622), frac(-31622, 31623),
	}
	for num := int64(-9); num <= 9; num++ {
		for den := int64(5); den <= 9; den++ {
			if new(big.Int).GCD(nil, nil, big.NewInt(max(num, -num)), big.NewInt(den)).Int64() == 1 {
				list = append(list, frac(num, den))
			}
		}
	}
	return list
}

// wrongFracs are fractions that are not right, each in its own way.
func wrongFracs() []impl.Frac {
	const m = impl.MaxNum
	return []impl.Frac{
		{}, frac(0, 2), frac(0, -1), frac(0, m), frac(1, 0), frac(1, -1), frac(-1, -1), frac(2, 4), frac(-6, 4),
		frac(m, m), frac(-m, m), frac(m, 2), frac(m+1, 1), frac(-m-1, 1), frac(1, m+1), frac(-1, m+1), frac(m+1, m),
		frac(math.MaxInt64, 1), frac(math.MinInt64, 1), frac(1, math.MaxInt64), frac(1, math.MinInt64),
		frac(math.MinInt64, math.MinInt64), frac(math.MinInt64, -1), frac(math.MaxInt64, math.MinInt64), frac(0, math.MinInt64),
	}
}

func ratOf(f impl.Frac) *big.Rat {
	return big.NewRat(f.Num, f.Den)
}

// toldOf is the right answer for a number: lowest terms, or ErrRange where these leave the bounds.
func toldOf(r *big.Rat) impl.FracResult {
	most := big.NewInt(impl.MaxNum)
	if r.Denom().Cmp(most) > 0 || new(big.Int).Abs(r.Num()).Cmp(most) > 0 {
		return impl.FracResult{Code: impl.ErrRange}
	}
	return impl.FracResult{Frac: frac(r.Num().Int64(), r.Denom().Int64())}
}

func TestFracCodes(t *testing.T) {
	codes := []int64{impl.OK, impl.ErrForm, impl.ErrMany, impl.ErrRange, impl.ErrNone, impl.ErrText, impl.ErrZero}
	for want, got := range codes {
		if got != int64(want) {
			t.Errorf("code %d stands for %d", got, want)
		}
	}
	if impl.MaxNum != 1000000000 || impl.MaxText != 4000 {
		t.Error("bounds", impl.MaxNum, impl.MaxText)
	}
}

func TestFracFault(t *testing.T) {
	for _, f := range rightFracs() {
		if got := impl.FracFault(f); got != impl.OK {
			t.Errorf("FracFault(%v) = %d", f, got)
		}
	}
	for _, f := range wrongFracs() {
		if got := impl.FracFault(f); got != impl.ErrForm {
			t.Errorf("FracFault(%v) = %d", f, got)
		}
	}
}

func TestFracFaultOfSmallOnes(t *testing.T) {
	for num := int64(-30); num <= 30; num++ {
		for den := int64(-30); den <= 30; den++ {
			want := int64(impl.ErrForm)
			if den > 0 && ratOf(frac(num, den)).Denom().Int64() == den {
				want = impl.OK
			}
			if got := impl.FracFault(frac(num, den)); got != want {
				t.Errorf("FracFault(%d/%d) = %d, want %d", num, den, got, want)
			}
		}
	}
}

func TestMakeFracEdges(t *testing.T) {
	const m = impl.MaxNum
	const e = tenTo18
	ok := func(num int64, den int64) impl.FracResult {
		return impl.FracResult{Frac: frac(num, den)}
	}
	outside := impl.FracResult{Code: impl.ErrRange}
	zero := impl.FracResult{Code: impl.ErrZero}
	for _, c := range []struct {
		num, den int64
		want     impl.FracResult
	}{
		{5, 2, ok(5, 2)}, {-6, 4, ok(-3, 2)}, {6, -4, ok(-3, 2)}, {-6, -4, ok(3, 2)}, {12, 4, ok(3, 1)},
		{0, 5, ok(0, 1)}, {0, -5, ok(0, 1)}, {0, e, ok(0, 1)}, {0, -e, ok(0, 1)},
		{m, 1, ok(m, 1)}, {-m, 1, ok(-m, 1)}, {1, m, ok(1, m)}, {1, -m, ok(-1, m)}, {m - 1, m, ok(m-1, m)},
		{m + 1, 1, outside}, {-m - 1, 1, outside}, {1, m + 1, outside}, {1, -m - 1, outside}, {m + 1, m, outside},
		{2 * (m + 1), 2, outside}, {2 * m, 2, ok(m, 1)}, {2, 2 * m, ok(1, m)},
		{e, e, ok(1, 1)}, {-e, e, ok(-1, 1)}, {e, -e, ok(-1, 1)}, {-e, -e, ok(1, 1)},
		{e, m, ok(m, 1)}, {-e, m, ok(-m, 1)}, {e, -m, ok(-m, 1)}, {m, e, ok(1, m)}, {m, -e, ok(-1, m)},
		{e, 1, outside}, {1, e, outside}, {e, e - 1, outside}, {e - 1, e, outside},
		{e + 1, e + 1, outside}, {-e - 1, 1, outside}, {1, -e - 1, outside}, {1, e + 1, outside}, {0, e + 1, outside}, {0, -e - 1, outside},
		{1, 0, zero}, {0, 0, zero}, {-1, 0, zero}, {e, 0, zero}, {-e, 0, zero},
		{e + 1, 0, outside}, {-e - 1, 0, outside}, // the bounds are asked ahead of the 0
		{math.MinInt64, 1, outside}, {1, math.MinInt64, outside}, {math.MinInt64, math.MinInt64, outside}, {math.MinInt64, -1, outside},
		{math.MinInt64, 0, outside}, {0, math.MinInt64, outside}, {math.MaxInt64, math.MaxInt64, outside}, {math.MaxInt64, 0, outside},
	} {
		if got := impl.MakeFrac(c.num, c.den); got != c.want {
			t.Errorf("MakeFrac(%d, %d) = %v, want %v", c.num, c.den, got, c.want)
		}
	}
}

func TestMakeFracOfMany(t *testing.T) {
	list := []int64{1, 2, 3, 999999937, impl.MaxNum - 1, impl.MaxNum, impl.MaxNum + 1, 2 * impl.MaxNum, 7 * impl.MaxNum,
		999999937 * 998244353, 123456789 * impl.MaxNum, tenTo18 - 1, tenTo18, 720720, 65536}
	for i := int64(-20); i <= 20; i++ {
		list = append(list, i)
	}
	for _, a := range list {
		for _, b := range list {
			for _, num := range []int64{a, -a} {
				want := impl.FracResult{Code: impl.ErrZero}
				if b != 0 {
					want = toldOf(big.NewRat(num, b))
				}
				if got := impl.MakeFrac(num, b); got != want {
					t.Errorf("MakeFrac(%d, %d) = %v, want %v", num, b, got, want)
				}
			}
		}
	}
}

func TestFracSumsAndProducts(t *testing.T) {
	for _, a := range rightFracs() {
		for _, b := range rightFracs() {
			x, y := ratOf(a), ratOf(b)
			if got, want := impl.AddFrac(a, b), toldOf(new(big.Rat).Add(x, y)); got != want {
				t.Errorf("AddFrac(%v, %v) = %v, want %v", a, b, got, want)
			}
			if got, want := impl.SubFrac(a, b), toldOf(new(big.Rat).Sub(x, y)); got != want {
				t.Errorf("SubFrac(%v, %v) = %v, want %v", a, b, got, want)
			}
			if got, want := impl.MulFrac(a, b), toldOf(new(big.Rat).Mul(x, y)); got != want {
				t.Errorf("MulFrac(%v, %v) = %v, want %v", a, b, got, want)
			}
			want := impl.FracResult{Code: impl.ErrZero}
			if b.Num != 0 {
				want = toldOf(new(big.Rat).Quo(x, y))
			}
			if got := impl.DivFrac(a, b); got != want {
				t.Errorf("DivFrac(%v, %v) = %v, want %v", a, b, got, want)
			}
			if got := impl.CompareFrac(a, b); got != int64(x.Cmp(y)) {
				t.Errorf("CompareFrac(%v, %v) = %d", a, b, got)
			}
		}
	}
}

func TestFracBoundsOfResults(t *testing.T) {
	const m = impl.MaxNum
	ok := func(num int64, den int64) impl.FracResult {
		return impl.FracResult{Frac: frac(num, den)}
	}
	outside := impl.FracResult{Code: impl.ErrRange}
	for _, c := range []struct {
		name      string
		got, want impl.FracResult
	}{
		{"sum at the bound", impl.AddFrac(frac(m-1, 1), frac(1, 1)), ok(m, 1)},
		{"sum beyond the bound", impl.AddFrac(frac(m, 1), frac(1, 1)), outside},
		{"sum of halves beyond the bound", impl.AddFrac(frac(m, 1), frac(1, 2)), outside},
		{"sum whose products together pass 10^18", impl.AddFrac(frac(m-1, m), frac(m-1, m)), ok(m-1, m/2)},
		{"the same below 0", impl.SubFrac(frac(1-m, m), frac(m-1, m)), ok(1-m, m/2)},
		{"difference at the bound", impl.SubFrac(frac(1-m, 1), frac(1, 1)), ok(-m, 1)},
		{"difference beyond the bound", impl.SubFrac(frac(-m, 1), frac(1, 1)), outside},
		{"difference that comes back", impl.SubFrac(frac(m, 1), frac(m, 1)), ok(0, 1)},
		{"den at the bound", impl.AddFrac(frac(1, 40000), frac(1, 25000)), ok(13, 200000)},
		{"den just at the bound", impl.MulFrac(frac(1, 40000), frac(1, 25000)), ok(1, m)},
		{"den beyond the bound", impl.MulFrac(frac(1, 40000), frac(1, 25001)), outside},
		{"num at the bound", impl.MulFrac(frac(40000, 1), frac(-25000, 1)), ok(-m, 1)},
		{"num beyond the bound", impl.MulFrac(frac(40000, 1), frac(-25001, 1)), outside},
		{"product that is 1", impl.MulFrac(frac(m, m-1), frac(m-1, m)), ok(1, 1)},
		{"greatest product", impl.MulFrac(frac(m, 1), frac(m, 1)), outside},
		{"least product", impl.MulFrac(frac(1, m), frac(-1, m)), outside},
		{"quotient below 0", impl.DivFrac(frac(1, 1), frac(-m, 1)), ok(-1, m)},
		{"quotient at the bound", impl.DivFrac(frac(-1, 1), frac(1, m)), ok(-m, 1)},
		{"quotient beyond the bound", impl.DivFrac(frac(2, 1), frac(1, m)), outside},
		{"quotient of equals", impl.DivFrac(frac(-m, m-1), frac(-m, m-1)), ok(1, 1)},
		{"quotient by 0", impl.DivFrac(frac(1, 2), frac(0, 1)), impl.FracResult{Code: impl.ErrZero}},
		{"0 by 0", impl.DivFrac(frac(0, 1), frac(0, 1)), impl.FracResult{Code: impl.ErrZero}},
		{"0 by something below 0", impl.DivFrac(frac(0, 1), frac(-5, 3)), ok(0, 1)},
	} {
		if c.got != c.want {
			t.Errorf("%s: %v, want %v", c.name, c.got, c.want)
		}
	}
}

func TestFracsThatAreNotRight(t *testing.T) {
	want := impl.FracResult{Code: impl.ErrForm}
	check := func(a impl.Frac, b impl.Frac) {
		for i, got := range []impl.FracResult{impl.AddFrac(a, b), impl.SubFrac(a, b), impl.MulFrac(a, b), impl.DivFrac(a, b)} {
			if got != want {
				t.Errorf("call %d of %v and %v: %v", i, a, b, got)
			}
		}
		if got := impl.CompareFrac(a, b); got != 0 {
			t.Errorf("CompareFrac(%v, %v) = %d", a, b, got)
		}
	}
	for _, wrong := range wrongFracs() {
		for _, right := range rightFracs() {
			check(wrong, right)
			check(right, wrong)
		}
		for _, other := range wrongFracs() {
			check(wrong, other)
		}
		if got := impl.FloorFrac(wrong); got != 0 {
			t.Errorf("FloorFrac(%v) = %d", wrong, got)
		}
		if got := impl.FormatFrac(wrong); got != "" {
			t.Errorf("FormatFrac(%v) = %q", wrong, got)
		}
	}
}

func TestFloorFrac(t *testing.T) {
	const m = impl.MaxNum
	for _, c := range []struct {
		f    impl.Frac
		want int64
	}{
		{frac(0, 1), 0}, {frac(5, 1), 5}, {frac(-5, 1), -5}, {frac(3, 2), 1}, {frac(-3, 2), -2}, {frac(1, m), 0}, {frac(-1, m), -1},
		{frac(m-1, m), 0}, {frac(1-m, m), -1}, {frac(m, m-1), 1}, {frac(-m, m-1), -2}, {frac(m, 1), m}, {frac(-m, 1), -m}, {frac(-m, 7), -142857143},
	} {
		if got := impl.FloorFrac(c.f); got != c.want {
			t.Errorf("FloorFrac(%v) = %d, want %d", c.f, got, c.want)
		}
	}
	for _, f := range rightFracs() {
		floor := frac(impl.FloorFrac(f), 1)
		rest := impl.SubFrac(f, floor)
		if rest.Code != impl.OK || impl.CompareFrac(rest.Frac, frac(0, 1)) < 0 || impl.CompareFrac(rest.Frac, frac(1, 1)) >= 0 {
			t.Errorf("FloorFrac(%v) = %d leaves %v", f, floor.Num, rest)
		}
	}
}

// small fractions, whose sums and products of three stay within the bounds.
func smallFracs() []impl.Frac {
	var list []impl.Frac
	for _, f := range rightFracs() {
		if f.Num >= -50 && f.Num <= 50 && f.Den <= 50 {
			list = append(list, f)
		}
	}
	return list
}

// must takes the fraction out of an answer that has to have one.
func must(t *testing.T, r impl.FracResult) impl.Frac {
	t.Helper()
	if r.Code != impl.OK || impl.FracFault(r.Frac) != impl.OK {
		t.Fatal("no right fraction:", r)
	}
	return r.Frac
}

func TestFracLawsOfAField(t *testing.T) {
	for _, a := range smallFracs() {
		for _, b := range smallFracs() {
			sum, product := must(t, impl.AddFrac(a, b)), must(t, impl.MulFrac(a, b))
			if sum != must(t, impl.AddFrac(b, a)) || product != must(t, impl.MulFrac(b, a)) {
				t.Errorf("%v and %v: the order is seen", a, b)
			}
			if must(t, impl.SubFrac(sum, b)) != a || must(t, impl.AddFrac(must(t, impl.SubFrac(a, b)), b)) != a {
				t.Errorf("%v and %v: the sum is not undone", a, b)
			}
			if b.Num != 0 && (must(t, impl.DivFrac(product, b)) != a || must(t, impl.MulFrac(must(t, impl.DivFrac(a, b)), b)) != a) {
				t.Errorf("%v and %v: the product is not undone", a, b)
			}
			for _, c := range smallFracs() {
				if must(t, impl.AddFrac(sum, c)) != must(t, impl.AddFrac(a, must(t, impl.AddFrac(b, c)))) {
					t.Errorf("%v, %v, %v: sums", a, b, c)
				}
				if must(t, impl.MulFrac(product, c)) != must(t, impl.MulFrac(a, must(t, impl.MulFrac(b, c)))) {
					t.Errorf("%v, %v, %v: products", a, b, c)
				}
				if must(t, impl.MulFrac(sum, c)) != must(t, impl.AddFrac(must(t, impl.MulFrac(a, c)), must(t, impl.MulFrac(b, c)))) {
					t.Errorf("%v, %v, %v: the product of a sum", a, b, c)
				}
			}
		}
		if must(t, impl.AddFrac(a, frac(0, 1))) != a || must(t, impl.MulFrac(a, frac(1, 1))) != a {
			t.Errorf("%v: 0 or 1 changes it", a)
		}
	}
}

func TestFracLawsOfOrder(t *testing.T) {
	for _, a := range rightFracs() {
		if impl.CompareFrac(a, a) != 0 {
			t.Errorf("%v is not itself", a)
		}
		for _, b := range rightFracs() {
			way := impl.CompareFrac(a, b)
			if impl.CompareFrac(b, a) != -way || (way == 0) != (a == b) {
				t.Errorf("%v and %v: %d", a, b, way)
			}
			for _, c := range rightFracs() {
				if way < 0 && impl.CompareFrac(b, c) < 0 && impl.CompareFrac(a, c) >= 0 {
					t.Errorf("%v, %v, %v: not in a row", a, b, c)
				}
				left, right := impl.AddFrac(a, c), impl.AddFrac(b, c)
				if left.Code == impl.OK && right.Code == impl.OK && impl.CompareFrac(left.Frac, right.Frac) != way {
					t.Errorf("%v, %v, %v: a sum changes the order", a, b, c)
				}
				left, right = impl.MulFrac(a, c), impl.MulFrac(b, c)
				if c.Num > 0 && left.Code == impl.OK && right.Code == impl.OK && impl.CompareFrac(left.Frac, right.Frac) != way {
					t.Errorf("%v, %v, %v: a product changes the order", a, b, c)
				}
			}
		}
	}
}

// The same call, made again after other ones, answers the same; none of them panics.
func TestFracAnswersHangOnArgumentsAlone(t *testing.T) {
	type answers struct {
		sum, difference, product, quotient, made impl.FracResult
		way, floor, fault                        int64
		text                                     string
		read                                     impl.FracText
	}
	ask := func(a impl.Frac, b impl.Frac) answers {
		text := impl.FormatFrac(a)
		return answers{impl.AddFrac(a, b), impl.SubFrac(a, b), impl.MulFrac(a, b), impl.DivFrac(a, b), impl.MakeFrac(a.Num, b.Den),
			impl.CompareFrac(a, b), impl.FloorFrac(a), impl.FracFault(b), text, impl.ParseFrac(text)}
	}
	all := append(rightFracs(), wrongFracs()...)
	first := map[[2]impl.Frac]answers{}
	for _, a := range all {
		for _, b := range all {
			first[[2]impl.Frac{a, b}] = ask(a, b)
		}
	}
	for i := len(all) - 1; i >= 0; i-- {
		for j := len(all) - 1; j >= 0; j-- {
			if first[[2]impl.Frac{all[i], all[j]}] != ask(all[i], all[j]) {
				t.Errorf("%v and %v: another answer the second time", all[i], all[j])
			}
		}
	}
}
