package tests

import (
	"math/big"
	"testing"

	"loop.example/g00049/impl"
)

// exactSteps goes from number to number without bounds, and keeps which step was the first that left those of a fraction.
type exactSteps struct {
	done int
	left int
}

func (s *exactSteps) keep(r *big.Rat) *big.Rat {
	s.done++
	if s.left == 0 && toldOf(r).Code != impl.OK {
		s.left = s.done
	}
	return r
}

func (s *exactSteps) add(a *big.Rat, b *big.Rat) *big.Rat {
	return s.keep(new(big.Rat).Add(a, b))
}

func (s *exactSteps) less(a *big.Rat, b *big.Rat) *big.Rat {
	return s.keep(new(big.Rat).Sub(a, b))
}

func (s *exactSteps) mul(a *big.Rat, b *big.Rat) *big.Rat {
	return s.keep(new(big.Rat).Mul(a, b))
}

func (s *exactSteps) by(a *big.Rat, b *big.Rat) *big.Rat {
	return s.keep(new(big.Rat).Quo(a, b))
}

// noneWrong says whether all of the fractions are right.
func noneWrong(list ...impl.Frac) bool {
	for _, f := range list {
		if impl.FracFault(f) != impl.OK {
			return false
		}
	}
	return true
}

func rightMatrix(m impl.Matrix) bool {
	return noneWrong(m.A, m.B, m.C, m.D)
}

// fieldsOf are a matrix's fields, to be changed one by one.
func fieldsOf(m *impl.Matrix) []*impl.Frac {
	return []*impl.Frac{&m.A, &m.B, &m.C, &m.D}
}

func matrix(a impl.Frac, b impl.Frac, c impl.Frac, d impl.Frac) impl.Matrix {
	return impl.Matrix{A: a, B: b, C: c, D: d}
}

// whole is a matrix of whole numbers.
func whole(a int64, b int64, c int64, d int64) impl.Matrix {
	return matrix(frac(a, 1), frac(b, 1), frac(c, 1), frac(d, 1))
}

func joinByWords(a impl.Matrix, b impl.Matrix) impl.MatrixResult {
	if !rightMatrix(a) || !rightMatrix(b) {
		return impl.MatrixResult{Code: impl.ErrForm}
	}
	s := exactSteps{}
	together := func(p impl.Frac, q impl.Frac, u impl.Frac, v impl.Frac) impl.Frac {
		return toldOf(s.add(s.mul(ratOf(p), ratOf(q)), s.mul(ratOf(u), ratOf(v)))).Frac
	}
	m := matrix(together(b.A, a.A, b.B, a.C), together(b.A, a.B, b.B, a.D), together(b.C, a.A, b.D, a.C), together(b.C, a.B, b.D, a.D))
	if s.left > 0 {
		return impl.MatrixResult{Code: impl.ErrRange}
	}
	return impl.MatrixResult{Matrix: m}
}

// apartByWords is a b less c d.
func apartByWords(a impl.Frac, b impl.Frac, c impl.Frac, d impl.Frac) impl.FracResult {
	if !noneWrong(a, b, c, d) {
		return impl.FracResult{Code: impl.ErrForm}
	}
	s := exactSteps{}
	last := s.less(s.mul(ratOf(a), ratOf(b)), s.mul(ratOf(c), ratOf(d)))
	if s.left > 0 {
		return impl.FracResult{Code: impl.ErrRange}
	}
	return toldOf(last)
}

// drawnFracs draws right fractions, mostly small ones.
type drawnFracs struct {
	numbers
	small []impl.Frac
	all   []impl.Frac
}

func fracsFrom(state uint64) *drawnFracs {
	return &drawnFracs{numbers{state}, smallFracs(), rightFracs()}
}

func (d *drawnFracs) frac() impl.Frac {
	list := d.small
	if d.below(4) == 0 {
		list = d.all
	}
	return list[d.below(int64(len(list)))]
}

func (d *drawnFracs) matrix() impl.Matrix {
	return matrix(d.frac(), d.frac(), d.frac(), d.frac())
}

// spoilt calls for the matrix with each of its fields in turn changed to each fraction that is not right.
func spoilt(m impl.Matrix, call func(wrong impl.Matrix)) {
	for field := range fieldsOf(&m) {
		for _, f := range wrongFracs() {
			wrong := m
			*fieldsOf(&wrong)[field] = f
			call(wrong)
		}
	}
}

func holdJoin(t *testing.T, a impl.Matrix, b impl.Matrix, want impl.MatrixResult) {
	t.Helper()
	if got := impl.JoinMatrix(a, b); got != want {
		t.Errorf("JoinMatrix(%v, %v) = %v, want %v", a, b, got, want)
	}
}

func TestPlainBounds(t *testing.T) {
	if impl.PartGap != 1 || impl.PartPower != 2 || impl.MaxParts != 200 {
		t.Error("the constants of chapter 7 are others")
	}
}

func TestJoinMatrixInItsOrder(t *testing.T) {
	a, b := whole(2, 3, 5, 7), whole(11, 13, 17, 19)
	holdJoin(t, a, b, impl.MatrixResult{Matrix: whole(11*2+13*5, 11*3+13*7, 17*2+19*5, 17*3+19*7)})
	holdJoin(t, b, a, impl.MatrixResult{Matrix: whole(2*11+3*17, 2*13+3*19, 5*11+7*17, 5*13+7*19)})
	gap, power := matrix(frac(1, 1), frac(2, 3), frac(0, 1), frac(1, 1)), matrix(frac(1, 1), frac(0, 1), frac(-1, 4), frac(1, 1))
	holdJoin(t, gap, power, impl.MatrixResult{Matrix: matrix(frac(1, 1), frac(2, 3), frac(-1, 4), frac(5, 6))})
	holdJoin(t, power, gap, impl.MatrixResult{Matrix: matrix(frac(5, 6), frac(2, 3), frac(-1, 4), frac(1, 1))})
}

func TestJoinMatrixAtTheBounds(t *testing.T) {
	const m = impl.MaxNum
	one, zero, most, least := whole(1, 0, 0, 1), whole(0, 0, 0, 0), whole(m, -m, m, -m), matrix(frac(1, m), frac(-1, m), frac(m-1, m), frac(m, m-1))
	for _, a := range []impl.Matrix{one, zero, most, least, whole(5, 6, 7, 8)} {
		holdJoin(t, one, a, impl.MatrixResult{Matrix: a})
		holdJoin(t, a, one, impl.MatrixResult{Matrix: a})
		holdJoin(t, zero, a, impl.MatrixResult{Matrix: zero})
		holdJoin(t, a, zero, impl.MatrixResult{Matrix: zero})
		holdJoin(t, a, whole(-1, 0, 0, -1), joinByWords(a, whole(-1, 0, 0, -1)))
	}
	outside := impl.MatrixResult{Code: impl.ErrRange}
	holdJoin(t, most, most, outside)
	holdJoin(t, least, least, outside)
	holdJoin(t, whole(m-1, 0, 1, 1), whole(1, 1, 0, 1), impl.MatrixResult{Matrix: whole(m, 1, 1, 1)})
	holdJoin(t, whole(m, 0, 1, 1), whole(1, 1, 0, 1), outside)
	holdJoin(t, whole(1-m, 0, -1, 1), whole(1, 1, 0, 1), impl.MatrixResult{Matrix: whole(-m, 1, -1, 1)})
	holdJoin(t, whole(-m, 0, -1, 1), whole(1, 1, 0, 1), outside)
}

// joinProducts are the eight products of a join: which field of a and of b each is made of, and which field it goes into.
func joinProducts() [][3]int {
	const a, b, c, d = 0, 1, 2, 3
	return [][3]int{{a, a, a}, {c, b, a}, {b, a, b}, {d, b, b}, {a, c, c}, {c, d, c}, {b, c, d}, {d, d, d}}
}

func TestEachProductAndSumOfJoinMatrix(t *testing.T) {
	const m = impl.MaxNum
	outside := impl.MatrixResult{Code: impl.ErrRange}
	for _, p := range joinProducts() {
		for _, c := range []struct {
			first, second impl.Frac
			code          int64
		}{
			{frac(40000, 1), frac(25000, 1), impl.OK}, {frac(40000, 1), frac(-25000, 1), impl.OK}, {frac(1, 40000), frac(1, 25000), impl.OK},
			{frac(40000, 1), frac(25001, 1), impl.ErrRange}, {frac(-40000, 1), frac(25001, 1), impl.ErrRange}, {frac(1, 40000), frac(-1, 25001), impl.ErrRange},
		} {
			first, second, want := whole(0, 0, 0, 0), whole(0, 0, 0, 0), impl.MatrixResult{Code: c.code}
			*fieldsOf(&first)[p[0]], *fieldsOf(&second)[p[1]] = c.first, c.second
			if c.code == impl.OK {
				want.Matrix = whole(0, 0, 0, 0)
				*fieldsOf(&want.Matrix)[p[2]] = impl.MulFrac(c.first, c.second).Frac
			}
			holdJoin(t, first, second, want)
		}
	}
	for into, rows := range [][4]int{{0, 0, 2, 1}, {1, 0, 3, 1}, {0, 2, 2, 3}, {1, 2, 3, 3}} {
		for _, c := range []struct {
			left, right impl.Frac
			want        impl.FracResult
		}{
			{frac(m-1, 1), frac(1, 1), impl.FracResult{Frac: frac(m, 1)}}, {frac(m, 1), frac(1, 1), impl.FracResult{Code: impl.ErrRange}},
			{frac(1-m, 1), frac(-1, 1), impl.FracResult{Frac: frac(-m, 1)}}, {frac(-m, 1), frac(-1, 1), impl.FracResult{Code: impl.ErrRange}},
			{frac(m, 1), frac(-m, 1), impl.FracResult{Frac: frac(0, 1)}}, {frac(1, m), frac(1, m-1), impl.FracResult{Code: impl.ErrRange}},
		} {
			first, second, want := whole(0, 0, 0, 0), whole(0, 0, 0, 0), impl.MatrixResult{Code: c.want.Code}
			*fieldsOf(&first)[rows[0]], *fieldsOf(&second)[rows[1]] = c.left, frac(1, 1)
			*fieldsOf(&first)[rows[2]], *fieldsOf(&second)[rows[3]] = c.right, frac(1, 1)
			if c.want.Code == impl.OK {
				want.Matrix = joinByWords(first, second).Matrix
				if *fieldsOf(&want.Matrix)[into] != c.want.Frac {
					t.Fatal("the test is wrong", c, want)
				}
			}
			holdJoin(t, first, second, want)
		}
		first, second := whole(0, 0, 0, 0), whole(0, 0, 0, 0) // products beyond the bounds that would be 0 together
		*fieldsOf(&first)[rows[0]], *fieldsOf(&second)[rows[1]] = frac(m, 1), frac(2, 1)
		*fieldsOf(&first)[rows[2]], *fieldsOf(&second)[rows[3]] = frac(m, 1), frac(-2, 1)
		holdJoin(t, first, second, outside)
	}
	holdJoin(t, whole(m, 0, m, 0), whole(2, -2, 0, 0), outside)
	holdJoin(t, whole(m, 0, m-1, 0), whole(2, -2, 0, 0), outside)
	holdJoin(t, whole(m, 0, 1, 0), whole(1, -1, 0, 0), impl.MatrixResult{Matrix: whole(m-1, 0, 0, 0)})
}

func TestJoinMatrixOfWrongOnes(t *testing.T) {
	const m = impl.MaxNum
	want := impl.MatrixResult{Code: impl.ErrForm}
	for _, right := range []impl.Matrix{whole(1, 0, 0, 1), whole(0, 0, 0, 0), whole(m, m, m, m), whole(2, 3, 5, 7)} {
		for _, other := range []impl.Matrix{whole(1, 0, 0, 1), whole(0, 0, 0, 0), whole(m, m, m, m)} {
			spoilt(right, func(wrong impl.Matrix) {
				holdJoin(t, wrong, other, want)
				holdJoin(t, other, wrong, want)
				holdJoin(t, wrong, wrong, want)
				holdJoin(t, wrong, impl.Matrix{}, want)
			})
		}
	}
	holdJoin(t, impl.Matrix{}, impl.Matrix{}, want)
}

func TestJoinMatrixOfMany(t *testing.T) {
	d := fracsFrom(71)
	seen := map[int64]int{}
	for range 20000 {
		a, b := d.matrix(), d.matrix()
		want := joinByWords(a, b)
		seen[want.Code]++
		holdJoin(t, a, b, want)
	}
	if seen[impl.OK] < 2000 || seen[impl.ErrRange] < 2000 {
		t.Error("too few of a kind:", seen)
	}
}

func TestJoinMatrixOfThree(t *testing.T) {
	d := fracsFrom(72)
	held := 0
	for range 5000 {
		a, b, c := d.matrix(), d.matrix(), d.matrix()
		left, right := impl.JoinMatrix(a, b), impl.JoinMatrix(b, c)
		if left.Code != impl.OK || right.Code != impl.OK {
			continue
		}
		first, last := impl.JoinMatrix(left.Matrix, c), impl.JoinMatrix(a, right.Matrix)
		if first.Code != impl.OK || last.Code != impl.OK {
			continue
		}
		held++
		if first != last {
			t.Errorf("%v, %v, %v: %v and %v", a, b, c, first, last)
		}
	}
	if held < 500 {
		t.Error("too few:", held)
	}
}

func TestSwapMatrix(t *testing.T) {
	check := func(m impl.Matrix) {
		t.Helper()
		once := impl.SwapMatrix(m)
		if once != matrix(m.D, m.B, m.C, m.A) {
			t.Errorf("SwapMatrix(%v) = %v", m, once)
		}
		if impl.SwapMatrix(once) != m {
			t.Errorf("%v swapped twice is another", m)
		}
	}
	check(whole(2, 3, 5, 7))
	check(impl.Matrix{})
	check(matrix(frac(1, 2), frac(0, 0), frac(6, 4), frac(-3, -3)))
	spoilt(whole(2, 3, 5, 7), check)
	wrong := wrongFracs()
	for i := range wrong[3:] {
		check(matrix(wrong[i], wrong[i+1], wrong[i+2], wrong[i+3]))
	}
	d := fracsFrom(73)
	for range 1000 {
		check(d.matrix())
	}
}

func holdDet(t *testing.T, m impl.Matrix, want impl.FracResult) {
	t.Helper()
	if got := impl.DetMatrix(m); got != want {
		t.Errorf("DetMatrix(%v) = %v, want %v", m, got, want)
	}
}

func TestDetMatrix(t *testing.T) {
	const m = impl.MaxNum
	outside := impl.FracResult{Code: impl.ErrRange}
	for _, c := range []struct {
		m    impl.Matrix
		want impl.FracResult
	}{
		{whole(1, 0, 0, 1), impl.FracResult{Frac: frac(1, 1)}}, {whole(0, 0, 0, 0), impl.FracResult{Frac: frac(0, 1)}},
		{whole(2, 3, 5, 7), impl.FracResult{Frac: frac(-1, 1)}}, {whole(2, 3, 4, 6), impl.FracResult{Frac: frac(0, 1)}},
		{whole(0, 3, 4, 6), impl.FracResult{Frac: frac(-12, 1)}}, {whole(2, 3, 0, 6), impl.FracResult{Frac: frac(12, 1)}},
		{matrix(frac(1, 2), frac(1, 3), frac(1, 5), frac(1, 7)), impl.FracResult{Frac: frac(1, 210)}},
		{matrix(frac(m, m-1), frac(m, 1), frac(0, 1), frac(m-1, m)), impl.FracResult{Frac: frac(1, 1)}},
		{whole(m, 0, 0, 1), impl.FracResult{Frac: frac(m, 1)}}, {whole(0, m, 1, 0), impl.FracResult{Frac: frac(-m, 1)}},
		{whole(1, m, 1, m), impl.FracResult{Frac: frac(0, 1)}}, {whole(1, 1, 1, m), impl.FracResult{Frac: frac(m-1, 1)}},
		{whole(1, 1, -1, m), outside}, {whole(1, 1, 1, -m), outside}, {whole(1, m, 1, -m), outside}, // a difference
		{whole(2, 0, 0, m), outside}, {whole(2, 0, 0, -m), outside}, {whole(0, 2, m, 0), outside}, {whole(0, -2, m, 0), outside}, // a product
		{whole(2, 2, m, m), outside}, {whole(m, m, m, m), outside}, // products that are not right though their difference would be
		{whole(m, m, 1, 2), outside}, {whole(1, m, 2, m), outside},
		{matrix(frac(1, 40000), frac(0, 1), frac(0, 1), frac(1, 25000)), impl.FracResult{Frac: frac(1, m)}},
		{matrix(frac(1, 40000), frac(0, 1), frac(0, 1), frac(1, 25001)), outside},
	} {
		holdDet(t, c.m, c.want)
	}
	for _, right := range []impl.Matrix{whole(1, 0, 0, 1), whole(0, 0, 0, 0), whole(m, m, m, m)} {
		spoilt(right, func(wrong impl.Matrix) { holdDet(t, wrong, impl.FracResult{Code: impl.ErrForm}) })
	}
	holdDet(t, impl.Matrix{}, impl.FracResult{Code: impl.ErrForm})
}

func TestDetMatrixOfMany(t *testing.T) {
	d := fracsFrom(74)
	seen, joined := map[int64]int{}, 0
	for range 20000 {
		a, b := d.matrix(), d.matrix()
		want := apartByWords(a.A, a.D, a.B, a.C)
		seen[want.Code]++
		holdDet(t, a, want)
		holdDet(t, impl.SwapMatrix(a), apartByWords(a.D, a.A, a.B, a.C))
		both := impl.JoinMatrix(a, b)
		if both.Code != impl.OK {
			continue
		}
		one, other, all := impl.DetMatrix(a), impl.DetMatrix(b), impl.DetMatrix(both.Matrix)
		if one.Code != impl.OK || other.Code != impl.OK || all.Code != impl.OK {
			continue
		}
		joined++
		if all != impl.MulFrac(one.Frac, other.Frac) {
			t.Errorf("determinants of %v and %v: %v, %v, together %v", a, b, one, other, all)
		}
	}
	if seen[impl.OK] < 2000 || seen[impl.ErrRange] < 2000 || joined < 2000 {
		t.Error("too few of a kind:", seen, joined)
	}
}
