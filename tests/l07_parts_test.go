package tests

import (
	"math"
	"slices"
	"testing"

	"loop.example/g00049/impl"
)

func gapOf(num int64, den int64) impl.Part {
	return impl.Part{Kind: impl.PartGap, Value: frac(num, den)}
}

func powerOf(num int64, den int64) impl.Part {
	return impl.Part{Kind: impl.PartPower, Value: frac(num, den)}
}

func rayOf(y impl.Frac, u impl.Frac) impl.PlainRay {
	return impl.PlainRay{Y: y, U: u}
}

// roundParts are so many parts that lead round: six of them together are no part.
func roundParts(count int) []impl.Part {
	list := slices.Repeat([]impl.Part{gapOf(1, 1), powerOf(1, 1)}, (count+1)/2)
	return list[:count]
}

func otherKinds() []int64 {
	return []int64{0, -1, -2, 3, 4, 257, 258, 1<<32 + 1, 1<<32 + 2, math.MaxInt64, math.MinInt64}
}

// wrongParts are parts that are not right, each in its own way.
func wrongParts() []impl.Part {
	list := []impl.Part{{}}
	for _, f := range wrongFracs() {
		list = append(list, impl.Part{Kind: impl.PartGap, Value: f}, impl.Part{Kind: impl.PartPower, Value: f}, impl.Part{Kind: 3, Value: f})
	}
	for _, kind := range otherKinds() {
		list = append(list, impl.Part{Kind: kind, Value: frac(1, 2)}, impl.Part{Kind: kind, Value: frac(0, 1)})
	}
	return list
}

func (d *drawnFracs) part() impl.Part {
	return impl.Part{Kind: 1 + d.below(2), Value: d.frac()}
}

func (d *drawnFracs) ray() impl.PlainRay {
	return rayOf(d.frac(), d.frac())
}

// parts draws a list of at most so many, with room behind its end, at times of whole numbers near 0, which stay within the bounds longest.
func (d *drawnFracs) parts(most int64) []impl.Part {
	list := make([]impl.Part, d.below(most+1), most+3)
	near := d.below(3) == 0
	for i := range list[:cap(list)] {
		list[:cap(list)][i] = d.part()
		if near {
			list[:cap(list)][i].Value = frac(d.below(5)-2, 1)
		}
	}
	return list
}

func matrixOfPart(p impl.Part) impl.Matrix {
	if p.Kind == impl.PartGap {
		return matrix(frac(1, 1), p.Value, frac(0, 1), frac(1, 1))
	}
	return matrix(frac(1, 1), frac(0, 1), frac(-p.Value.Num, p.Value.Den), frac(1, 1))
}

func partsFaultByWords(list []impl.Part) int64 {
	if len(list) > 200 {
		return impl.ErrMany
	}
	for _, p := range list {
		if p.Kind != 1 && p.Kind != 2 || !noneWrong(p.Value) {
			return impl.ErrForm
		}
	}
	return impl.OK
}

func matrixByWords(list []impl.Part) impl.MatrixResult {
	if code := partsFaultByWords(list); code != impl.OK {
		return impl.MatrixResult{Code: code}
	}
	all := impl.MatrixResult{Matrix: whole(1, 0, 0, 1)}
	for _, p := range list {
		if all.Code == impl.OK {
			all = joinByWords(all.Matrix, matrixOfPart(p))
		}
	}
	return all
}

func traceByWords(list []impl.Part, ray impl.PlainRay) impl.PlainList {
	if code := partsFaultByWords(list); code != impl.OK {
		return impl.PlainList{Code: code}
	}
	if !noneWrong(ray.Y, ray.U) {
		return impl.PlainList{Code: impl.ErrForm}
	}
	rays := []impl.PlainRay{ray}
	for _, p := range list {
		s := exactSteps{}
		if p.Kind == impl.PartGap {
			ray.Y = toldOf(s.add(ratOf(ray.Y), s.mul(ratOf(p.Value), ratOf(ray.U)))).Frac
		} else {
			ray.U = toldOf(s.less(ratOf(ray.U), s.mul(ratOf(p.Value), ratOf(ray.Y)))).Frac
		}
		if s.left > 0 {
			return impl.PlainList{Code: impl.ErrRange}
		}
		rays = append(rays, ray)
	}
	return impl.PlainList{List: rays}
}

func sameTrace(a impl.PlainList, b impl.PlainList) bool {
	return a.Code == b.Code && slices.Equal(a.List, b.List)
}

// partsLeftAlone says whether a call leaves the parts as they were, the memory behind their end too.
func partsLeftAlone(list []impl.Part, call func()) bool {
	kept := slices.Clone(list[:cap(list)])
	call()
	return slices.Equal(kept, list[:cap(list)])
}

func holdMatrix(t *testing.T, list []impl.Part, want impl.MatrixResult) {
	t.Helper()
	got := impl.MatrixResult{}
	if !partsLeftAlone(list, func() { got = impl.MatrixOf(list) }) {
		t.Errorf("MatrixOf changes its parts %v", list)
	}
	if got != want {
		t.Errorf("MatrixOf(%v) = %v, want %v", list, got, want)
	}
}

func holdTrace(t *testing.T, list []impl.Part, ray impl.PlainRay, want impl.PlainList) {
	t.Helper()
	got := impl.PlainList{}
	if !partsLeftAlone(list, func() { got = impl.TracePlain(list, ray) }) {
		t.Errorf("TracePlain changes its parts %v", list)
	}
	if !sameTrace(got, want) {
		t.Errorf("TracePlain(%v, %v) = %v, want %v", list, ray, got, want)
	}
}

func TestPartFault(t *testing.T) {
	for _, kind := range []int64{impl.PartGap, impl.PartPower} {
		for _, f := range rightFracs() {
			if got := impl.PartFault(impl.Part{Kind: kind, Value: f}); got != impl.OK {
				t.Errorf("kind %d, value %v: %d", kind, f, got)
			}
		}
	}
	for _, kind := range otherKinds() {
		for _, f := range rightFracs() {
			if got := impl.PartFault(impl.Part{Kind: kind, Value: f}); got != impl.ErrForm {
				t.Errorf("kind %d, value %v: %d", kind, f, got)
			}
		}
	}
	for _, p := range wrongParts() {
		if got := impl.PartFault(p); got != impl.ErrForm {
			t.Errorf("%v: %d", p, got)
		}
	}
}

func TestMatrixOfFewParts(t *testing.T) {
	one := impl.MatrixResult{Matrix: whole(1, 0, 0, 1)}
	holdMatrix(t, nil, one)
	holdMatrix(t, []impl.Part{}, one)
	holdMatrix(t, []impl.Part{gapOf(1, 1), gapOf(2, 1)}[:0], one)
	for _, f := range rightFracs() {
		holdMatrix(t, []impl.Part{gapOf(f.Num, f.Den)}, impl.MatrixResult{Matrix: matrix(frac(1, 1), f, frac(0, 1), frac(1, 1))})
		holdMatrix(t, []impl.Part{powerOf(f.Num, f.Den)}, impl.MatrixResult{Matrix: matrix(frac(1, 1), frac(0, 1), frac(-f.Num, f.Den), frac(1, 1))})
	}
	holdMatrix(t, []impl.Part{gapOf(3, 1), powerOf(1, 2)}, impl.MatrixResult{Matrix: matrix(frac(1, 1), frac(3, 1), frac(-1, 2), frac(-1, 2))})
	holdMatrix(t, []impl.Part{powerOf(1, 2), gapOf(3, 1)}, impl.MatrixResult{Matrix: matrix(frac(-1, 2), frac(3, 1), frac(-1, 2), frac(1, 1))})
	holdMatrix(t, []impl.Part{powerOf(1, 50), gapOf(10, 1), powerOf(-1, 100)}, impl.MatrixResult{Matrix: matrix(frac(4, 5), frac(10, 1), frac(-3, 250), frac(11, 10))})
	holdMatrix(t, []impl.Part{gapOf(1, 2), gapOf(-1, 3), gapOf(5, 1)}, impl.MatrixResult{Matrix: matrix(frac(1, 1), frac(31, 6), frac(0, 1), frac(1, 1))})
	holdMatrix(t, []impl.Part{powerOf(1, 2), powerOf(-1, 3)}, impl.MatrixResult{Matrix: matrix(frac(1, 1), frac(0, 1), frac(-1, 6), frac(1, 1))})
}

func TestMatrixOfGreatestValues(t *testing.T) {
	const m = impl.MaxNum
	outside := impl.MatrixResult{Code: impl.ErrRange}
	ok := func(a impl.Matrix) impl.MatrixResult {
		return impl.MatrixResult{Matrix: a}
	}
	for _, c := range []struct {
		list []impl.Part
		want impl.MatrixResult
	}{
		{[]impl.Part{gapOf(m, 1), gapOf(-m, 1)}, ok(whole(1, 0, 0, 1))}, {[]impl.Part{powerOf(m, 1), powerOf(-m, 1)}, ok(whole(1, 0, 0, 1))},
		{[]impl.Part{gapOf(m-1, 1), gapOf(1, 1)}, ok(whole(1, m, 0, 1))}, {[]impl.Part{gapOf(m, 1), gapOf(1, 1)}, outside},
		{[]impl.Part{gapOf(1-m, 1), gapOf(-1, 1)}, ok(whole(1, -m, 0, 1))}, {[]impl.Part{gapOf(-m, 1), gapOf(-1, 1)}, outside},
		{[]impl.Part{powerOf(m-1, 1), powerOf(1, 1)}, ok(whole(1, 0, -m, 1))}, {[]impl.Part{powerOf(m, 1), powerOf(1, 1)}, outside},
		{[]impl.Part{gapOf(m, 1), gapOf(1, 1), gapOf(-1, 1)}, outside}, // what lies between counts, too
		{[]impl.Part{gapOf(m, 1), powerOf(m, 1)}, outside}, {[]impl.Part{powerOf(m, 1), gapOf(m, 1)}, outside},
		{[]impl.Part{gapOf(m, 1), powerOf(1, m)}, ok(matrix(frac(1, 1), frac(m, 1), frac(-1, m), frac(0, 1)))},
		{[]impl.Part{powerOf(1, m), gapOf(m, 1)}, ok(matrix(frac(0, 1), frac(m, 1), frac(-1, m), frac(1, 1)))},
		{[]impl.Part{gapOf(1, m), powerOf(1, m)}, outside},
		{[]impl.Part{gapOf(40000, 1), powerOf(-25000, 1)}, outside}, // the product is at the bound, with 1 beyond it
		{[]impl.Part{gapOf(40000, 1), powerOf(25000, 1)}, ok(whole(1, 40000, -25000, 1-m))},
		{[]impl.Part{powerOf(25000, 1), gapOf(40000, 1)}, ok(whole(1-m, 40000, -25000, 1))},
		{[]impl.Part{powerOf(-25000, 1), gapOf(40000, 1)}, outside},
	} {
		holdMatrix(t, c.list, c.want)
	}
}

func TestMatrixOfManyParts(t *testing.T) {
	for _, count := range []int{198, 199, 200} {
		holdMatrix(t, roundParts(count), matrixByWords(roundParts(count)))
		holdMatrix(t, slices.Repeat([]impl.Part{gapOf(1, 2)}, count), impl.MatrixResult{Matrix: matrix(frac(1, 1), impl.MakeFrac(int64(count), 2).Frac, frac(0, 1), frac(1, 1))})
	}
	holdMatrix(t, roundParts(198), impl.MatrixResult{Matrix: whole(-1, 0, 0, -1)})
	holdMatrix(t, roundParts(192), impl.MatrixResult{Matrix: whole(1, 0, 0, 1)})
	for _, count := range []int{201, 202, 1000, 100000} {
		list := roundParts(count)
		holdMatrix(t, list, impl.MatrixResult{Code: impl.ErrMany})
		list[0].Kind = 0
		holdMatrix(t, list, impl.MatrixResult{Code: impl.ErrMany})
		holdMatrix(t, make([]impl.Part, count), impl.MatrixResult{Code: impl.ErrMany})
		holdMatrix(t, slices.Repeat([]impl.Part{gapOf(impl.MaxNum, 1)}, count), impl.MatrixResult{Code: impl.ErrMany})
	}
	holdMatrix(t, make([]impl.Part, 200), impl.MatrixResult{Code: impl.ErrForm})
	holdMatrix(t, slices.Repeat([]impl.Part{gapOf(impl.MaxNum, 1)}, 200), impl.MatrixResult{Code: impl.ErrRange})
}

func TestMatrixOfWrongParts(t *testing.T) {
	want := impl.MatrixResult{Code: impl.ErrForm}
	far := []impl.Part{gapOf(impl.MaxNum, 1), powerOf(impl.MaxNum, 1), gapOf(impl.MaxNum, 1)} // ErrRange by itself
	holdMatrix(t, far, impl.MatrixResult{Code: impl.ErrRange})
	for _, wrong := range wrongParts() {
		holdMatrix(t, []impl.Part{wrong}, want)
		holdMatrix(t, []impl.Part{wrong, wrong}, want)
		for _, around := range [][]impl.Part{far, roundParts(3), roundParts(199)} {
			for _, at := range []int{0, 1, len(around) - 1, len(around)} {
				holdMatrix(t, slices.Insert(slices.Clone(around), at, wrong), want)
			}
		}
	}
}

func TestMatrixOfDrawnParts(t *testing.T) {
	d := fracsFrom(75)
	seen, turned, joined := map[int64]int{}, 0, 0
	for range 20000 {
		list, more := d.parts(8), d.parts(8)
		got := impl.MatrixOf(list)
		seen[got.Code]++
		holdMatrix(t, list, matrixByWords(list))
		if got.Code != impl.OK {
			continue
		}
		if det := impl.DetMatrix(got.Matrix); det.Code == impl.OK && det.Frac != frac(1, 1) {
			t.Errorf("%v: the determinant is %v", list, det)
		}
		back := slices.Clone(list)
		slices.Reverse(back)
		if round := impl.MatrixOf(back); round.Code == impl.OK {
			turned++
			if round.Matrix != impl.SwapMatrix(got.Matrix) {
				t.Errorf("%v: %v, turned round %v", list, got.Matrix, round.Matrix)
			}
		}
		other := impl.MatrixOf(more)
		all := impl.MatrixOf(slices.Concat(list, more))
		if other.Code != impl.OK || all.Code != impl.OK {
			continue
		}
		both := impl.JoinMatrix(got.Matrix, other.Matrix)
		if both.Code == impl.OK {
			joined++
			if both != all {
				t.Errorf("%v and %v: %v, at once %v", list, more, both, all)
			}
		}
	}
	if seen[impl.OK] < 5000 || seen[impl.ErrRange] < 1000 || turned < 5000 || joined < 5000 {
		t.Error("too few of a kind:", seen, turned, joined)
	}
}

// A determinant that can be reckoned is 1 where the parts' matrix can be; here it always can.
func TestDeterminantsOfPartsAreOne(t *testing.T) {
	d := fracsFrom(76)
	for range 5000 {
		list := make([]impl.Part, d.below(9))
		for i := range list {
			list[i] = impl.Part{Kind: 1 + d.below(2), Value: frac(d.below(9)-4, 1)}
		}
		m := impl.MatrixOf(list)
		if det := impl.DetMatrix(m.Matrix); m.Code != impl.OK || det.Code != impl.OK || det.Frac != frac(1, 1) {
			t.Errorf("%v: %v, %v", list, m, det)
		}
	}
}

func TestTracePlainOfFewParts(t *testing.T) {
	ray := rayOf(frac(3, 1), frac(1, 5))
	alone := impl.PlainList{List: []impl.PlainRay{ray}}
	holdTrace(t, nil, ray, alone)
	holdTrace(t, []impl.Part{}, ray, alone)
	holdTrace(t, []impl.Part{gapOf(1, 1)}[:0], ray, alone)
	holdTrace(t, []impl.Part{gapOf(10, 1)}, ray, impl.PlainList{List: []impl.PlainRay{ray, rayOf(frac(5, 1), frac(1, 5))}})
	holdTrace(t, []impl.Part{powerOf(1, 10)}, ray, impl.PlainList{List: []impl.PlainRay{ray, rayOf(frac(3, 1), frac(-1, 10))}})
	holdTrace(t, []impl.Part{gapOf(10, 1), powerOf(1, 10), gapOf(-10, 3)}, ray,
		impl.PlainList{List: []impl.PlainRay{ray, rayOf(frac(5, 1), frac(1, 5)), rayOf(frac(5, 1), frac(-3, 10)), rayOf(frac(6, 1), frac(-3, 10))}})
	axis := rayOf(frac(0, 1), frac(0, 1))
	holdTrace(t, roundParts(200), axis, impl.PlainList{List: slices.Repeat([]impl.PlainRay{axis}, 201)})
}

func TestTracePlainOfManyParts(t *testing.T) {
	ray := rayOf(frac(1, 2), frac(-2, 3))
	for _, count := range []int{1, 2, 6, 199, 200} {
		list := roundParts(count)
		holdTrace(t, list, ray, traceByWords(list, ray))
		if got := impl.TracePlain(list, ray); got.Code != impl.OK || len(got.List) != count+1 {
			t.Errorf("%d parts: code %d, %d rays", count, got.Code, len(got.List))
		}
	}
	many := impl.PlainList{Code: impl.ErrMany}
	for _, count := range []int{201, 202, 100000} {
		holdTrace(t, roundParts(count), ray, many)
		holdTrace(t, make([]impl.Part, count), ray, many)
		holdTrace(t, make([]impl.Part, count), impl.PlainRay{}, many)
		holdTrace(t, slices.Repeat([]impl.Part{gapOf(impl.MaxNum, 1)}, count), rayOf(frac(1, 1), frac(2, 1)), many)
	}
}

func TestTracePlainOfWrongOnes(t *testing.T) {
	const m = impl.MaxNum
	want := impl.PlainList{Code: impl.ErrForm}
	far := []impl.Part{gapOf(m, 1), powerOf(m, 1)}
	ray := rayOf(frac(m, 1), frac(m, 1))
	holdTrace(t, far, ray, impl.PlainList{Code: impl.ErrRange})
	for _, wrong := range wrongParts() {
		for _, around := range [][]impl.Part{nil, far, roundParts(199)} {
			for at := 0; at <= len(around); at += max(1, len(around)/2) {
				list := slices.Insert(slices.Clone(around), at, wrong)
				holdTrace(t, list, ray, want)
				holdTrace(t, list, impl.PlainRay{}, want)
			}
		}
	}
	for _, f := range wrongFracs() {
		for _, list := range [][]impl.Part{nil, far, roundParts(1), roundParts(200)} {
			for _, other := range []impl.Frac{frac(0, 1), frac(m, 1), f} {
				holdTrace(t, list, rayOf(f, other), want)
				holdTrace(t, list, rayOf(other, f), want)
			}
		}
	}
}

func TestTracePlainBeyondTheBounds(t *testing.T) {
	const m = impl.MaxNum
	outside := impl.PlainList{Code: impl.ErrRange}
	for _, c := range []struct {
		part impl.Part
		ray  impl.PlainRay
		code int64
	}{
		{gapOf(m, 1), rayOf(frac(0, 1), frac(1, 1)), impl.OK}, {gapOf(m, 1), rayOf(frac(1, 1), frac(1, 1)), impl.ErrRange}, // a sum
		{gapOf(m, 1), rayOf(frac(-m, 1), frac(1, 1)), impl.OK}, {gapOf(m, 1), rayOf(frac(-m, 1), frac(2, 1)), impl.ErrRange}, // a product whose sum would be right
		{gapOf(-m, 1), rayOf(frac(0, 1), frac(1, 1)), impl.OK}, {gapOf(-m, 1), rayOf(frac(-1, 1), frac(1, 1)), impl.ErrRange},
		{powerOf(m, 1), rayOf(frac(1, 1), frac(0, 1)), impl.OK}, {powerOf(m, 1), rayOf(frac(1, 1), frac(-1, 1)), impl.ErrRange},
		{powerOf(m, 1), rayOf(frac(1, 1), frac(m, 1)), impl.OK}, {powerOf(m, 1), rayOf(frac(2, 1), frac(m, 1)), impl.ErrRange},
		{powerOf(-m, 1), rayOf(frac(1, 1), frac(0, 1)), impl.OK}, {powerOf(-m, 1), rayOf(frac(1, 1), frac(1, 1)), impl.ErrRange},
		{gapOf(1, m), rayOf(frac(0, 1), frac(1, 1)), impl.OK}, {gapOf(1, m), rayOf(frac(1, 3), frac(1, 1)), impl.ErrRange},
		{powerOf(1, m), rayOf(frac(1, 2), frac(0, 1)), impl.ErrRange}, {powerOf(1, m), rayOf(frac(2, 1), frac(0, 1)), impl.OK},
	} {
		want := traceByWords([]impl.Part{c.part}, c.ray)
		if want.Code != c.code {
			t.Fatal("the test is wrong", c)
		}
		holdTrace(t, []impl.Part{c.part}, c.ray, want)
		if c.code == impl.OK {
			continue
		}
		still := gapOf(0, 1)
		holdTrace(t, []impl.Part{c.part, still, still}, c.ray, outside)
		holdTrace(t, []impl.Part{still, c.part, still}, c.ray, outside)
		holdTrace(t, []impl.Part{still, still, c.part}, c.ray, outside)
		holdTrace(t, append(slices.Repeat([]impl.Part{still}, 199), c.part), c.ray, outside)
	}
}

// A ray is reckoned by itself: a matrix beyond the bounds does not stop it, nor does one within them carry it on.
func TestTracePlainWithoutTheMatrix(t *testing.T) {
	const m = impl.MaxNum
	far := []impl.Part{gapOf(m, 1), gapOf(1, 1)}
	level, steep := rayOf(frac(7, 1), frac(0, 1)), rayOf(frac(-m, 1), frac(2, 1))
	holdMatrix(t, far, impl.MatrixResult{Code: impl.ErrRange})
	holdTrace(t, far, level, impl.PlainList{List: []impl.PlainRay{level, level, level}})
	back := []impl.Part{gapOf(m, 1), gapOf(-m, 1)}
	holdMatrix(t, back, impl.MatrixResult{Matrix: whole(1, 0, 0, 1)})
	holdTrace(t, back, steep, impl.PlainList{Code: impl.ErrRange})
}

// applied is what a matrix makes of a ray, reckoned without bounds; false, where that is no fraction.
func applied(m impl.Matrix, ray impl.PlainRay) (impl.PlainRay, bool) {
	s := exactSteps{}
	y := s.add(s.mul(ratOf(m.A), ratOf(ray.Y)), s.mul(ratOf(m.B), ratOf(ray.U)))
	u := s.add(s.mul(ratOf(m.C), ratOf(ray.Y)), s.mul(ratOf(m.D), ratOf(ray.U)))
	first, second := toldOf(y), toldOf(u)
	return rayOf(first.Frac, second.Frac), first.Code == impl.OK && second.Code == impl.OK
}

func TestTracePlainOfDrawnParts(t *testing.T) {
	d := fracsFrom(77)
	seen, both, matrixOnly, traceOnly := map[int64]int{}, 0, 0, 0
	for range 20000 {
		list, ray := d.parts(8), d.ray()
		want := traceByWords(list, ray)
		seen[want.Code]++
		holdTrace(t, list, ray, want)
		m := impl.MatrixOf(list)
		switch {
		case m.Code == impl.OK && want.Code == impl.OK:
			both++
			last, ok := applied(m.Matrix, ray)
			if !ok || last != want.List[len(list)] {
				t.Errorf("%v, %v: the last ray %v, the matrix makes %v", list, ray, want.List[len(list)], last)
			}
		case m.Code == impl.OK:
			matrixOnly++
		case want.Code == impl.OK:
			traceOnly++
		}
	}
	if seen[impl.OK] < 5000 || seen[impl.ErrRange] < 1000 || both < 5000 || matrixOnly < 100 || traceOnly < 5 {
		t.Error("too few of a kind:", seen, both, matrixOnly, traceOnly)
	}
}

func TestTracePlainAnswersNewMemory(t *testing.T) {
	ray := rayOf(frac(1, 1), frac(0, 1))
	for _, count := range []int{0, 1, 5, 200} {
		list := roundParts(count)
		first, second := impl.TracePlain(list, ray), impl.TracePlain(list, ray)
		apart(t, [][]impl.PlainRay{first.List}, [][]impl.PlainRay{second.List})
		kept := slices.Clone(second.List)
		for i := range first.List {
			first.List[i] = impl.PlainRay{}
		}
		if third := impl.TracePlain(list, ray); !slices.Equal(kept, second.List) || !slices.Equal(kept, third.List) {
			t.Errorf("%d parts: an answer is changed through another", count)
		}
	}
}

func TestInvariantOf(t *testing.T) {
	const m = impl.MaxNum
	outside := impl.FracResult{Code: impl.ErrRange}
	for _, c := range []struct {
		a, b impl.PlainRay
		want impl.FracResult
	}{
		{rayOf(frac(2, 1), frac(3, 1)), rayOf(frac(5, 1), frac(7, 1)), impl.FracResult{Frac: frac(-1, 1)}},
		{rayOf(frac(5, 1), frac(7, 1)), rayOf(frac(2, 1), frac(3, 1)), impl.FracResult{Frac: frac(1, 1)}},
		{rayOf(frac(2, 1), frac(0, 1)), rayOf(frac(5, 1), frac(7, 1)), impl.FracResult{Frac: frac(14, 1)}},
		{rayOf(frac(0, 1), frac(3, 1)), rayOf(frac(5, 1), frac(7, 1)), impl.FracResult{Frac: frac(-15, 1)}},
		{rayOf(frac(1, 2), frac(1, 3)), rayOf(frac(1, 5), frac(1, 7)), impl.FracResult{Frac: frac(1, 210)}},
		{rayOf(frac(0, 1), frac(0, 1)), rayOf(frac(5, 1), frac(7, 1)), impl.FracResult{Frac: frac(0, 1)}},
		{rayOf(frac(m, 1), frac(1, 1)), rayOf(frac(m, 1), frac(1, 1)), impl.FracResult{Frac: frac(0, 1)}},
		{rayOf(frac(m, 1), frac(0, 1)), rayOf(frac(0, 1), frac(1, 1)), impl.FracResult{Frac: frac(m, 1)}},
		{rayOf(frac(0, 1), frac(1, 1)), rayOf(frac(m, 1), frac(0, 1)), impl.FracResult{Frac: frac(-m, 1)}},
		{rayOf(frac(m, 1), frac(2, 1)), rayOf(frac(m, 1), frac(2, 1)), outside}, // products, though their difference would be right
		{rayOf(frac(m, 1), frac(1, 1)), rayOf(frac(m, 1), frac(2, 1)), outside}, {rayOf(frac(m, 1), frac(2, 1)), rayOf(frac(m, 1), frac(1, 1)), outside},
		{rayOf(frac(m, 1), frac(-1, 1)), rayOf(frac(1, 1), frac(1, 1)), outside}, {rayOf(frac(m, 1), frac(1, 1)), rayOf(frac(1, 1), frac(-1, 1)), outside}, // a difference
		{rayOf(frac(1, m), frac(0, 1)), rayOf(frac(0, 1), frac(1, 2)), outside}, {rayOf(frac(0, 1), frac(1, 2)), rayOf(frac(1, m), frac(0, 1)), outside},
	} {
		if got := impl.InvariantOf(c.a, c.b); got != c.want {
			t.Errorf("InvariantOf(%v, %v) = %v, want %v", c.a, c.b, got, c.want)
		}
	}
}

func TestInvariantOfWrongRays(t *testing.T) {
	want := impl.FracResult{Code: impl.ErrForm}
	for _, f := range wrongFracs() {
		for _, other := range []impl.Frac{frac(0, 1), frac(1, 2), frac(impl.MaxNum, 1), f} {
			right := rayOf(other, other)
			for _, wrong := range []impl.PlainRay{rayOf(f, other), rayOf(other, f), rayOf(f, f)} {
				if got := impl.InvariantOf(wrong, right); got != want {
					t.Errorf("InvariantOf(%v, %v) = %v", wrong, right, got)
				}
				if got := impl.InvariantOf(right, wrong); got != want {
					t.Errorf("InvariantOf(%v, %v) = %v", right, wrong, got)
				}
			}
		}
	}
	if got := impl.InvariantOf(impl.PlainRay{}, impl.PlainRay{}); got != want {
		t.Error("no rays:", got)
	}
}

func TestInvariantIsTheSameEverywhere(t *testing.T) {
	d := fracsFrom(78)
	seen, held := map[int64]int{}, 0
	for range 20000 {
		list, one, other := d.parts(8), d.ray(), d.ray()
		first := impl.InvariantOf(one, other)
		seen[first.Code]++
		if want := apartByWords(one.Y, other.U, other.Y, one.U); first != want {
			t.Errorf("InvariantOf(%v, %v) = %v, want %v", one, other, first, want)
		}
		a, b := impl.TracePlain(list, one), impl.TracePlain(list, other)
		if first.Code != impl.OK || a.Code != impl.OK || b.Code != impl.OK {
			continue
		}
		for i := range a.List {
			if behind := impl.InvariantOf(a.List[i], b.List[i]); behind.Code == impl.OK {
				held++
				if behind != first {
					t.Errorf("%v: of %v and %v %v, behind part %d %v", list, one, other, first, i, behind)
				}
			}
		}
	}
	if seen[impl.OK] < 5000 || seen[impl.ErrRange] < 1000 || held < 20000 {
		t.Error("too few of a kind:", seen, held)
	}
}
