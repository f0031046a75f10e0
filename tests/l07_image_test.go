package tests

import (
	"slices"
	"testing"

	"loop.example/g00049/impl"
)

func fociByWords(m impl.Matrix) impl.FociResult {
	if !rightMatrix(m) {
		return impl.FociResult{Code: impl.ErrForm}
	}
	if m.C.Num == 0 {
		return impl.FociResult{Code: impl.ErrNone}
	}
	s := exactSteps{}
	c := ratOf(m.C)
	minus := func(f impl.Frac) impl.Frac {
		return frac(-f.Num, f.Den)
	}
	focal, front, back := s.by(ratOf(frac(-1, 1)), c), s.by(ratOf(minus(m.D)), c), s.by(ratOf(minus(m.A)), c)
	if s.left > 0 {
		return impl.FociResult{Code: impl.ErrRange}
	}
	return impl.FociResult{Focal: toldOf(focal).Frac, Front: toldOf(front).Frac, Back: toldOf(back).Frac}
}

// imageByWords answers, beside the image, which step was the first that left a fraction's bounds, 0 if none did:
// 1 and 2 make t, 3 and 4 the height, 5 their quotient, 6 what is less by it, 7 and 8 the scale.
func imageByWords(m impl.Matrix, front impl.Frac) (impl.ImageResult, int) {
	if !rightMatrix(m) || !noneWrong(front) {
		return impl.ImageResult{Code: impl.ErrForm}, 0
	}
	s := exactSteps{}
	f := ratOf(front)
	t := s.add(s.mul(ratOf(m.C), f), ratOf(m.D))
	if s.left > 0 {
		return impl.ImageResult{Code: impl.ErrRange}, s.left
	}
	if t.Sign() == 0 {
		return impl.ImageResult{Code: impl.ErrNone}, 0
	}
	quotient := s.by(s.add(s.mul(ratOf(m.A), f), ratOf(m.B)), t)
	back := s.less(ratOf(frac(0, 1)), quotient)
	scale := s.add(ratOf(m.A), s.mul(ratOf(m.C), back))
	if s.left > 0 {
		return impl.ImageResult{Code: impl.ErrRange}, s.left
	}
	return impl.ImageResult{Back: toldOf(back).Frac, Scale: toldOf(scale).Frac}, 0
}

func holdFoci(t *testing.T, m impl.Matrix, want impl.FociResult) {
	t.Helper()
	if got := impl.Foci(m); got != want {
		t.Errorf("Foci(%v) = %v, want %v", m, got, want)
	}
}

func holdImage(t *testing.T, m impl.Matrix, front impl.Frac, want impl.ImageResult) {
	t.Helper()
	if got := impl.ImageOf(m, front); got != want {
		t.Errorf("ImageOf(%v, %v) = %v, want %v", m, front, got, want)
	}
}

func TestFociOfTheDocument(t *testing.T) {
	m := impl.MatrixOf([]impl.Part{powerOf(1, 50)})
	holdFoci(t, m.Matrix, impl.FociResult{Focal: frac(50, 1), Front: frac(50, 1), Back: frac(50, 1)})
}

func TestFoci(t *testing.T) {
	const m = impl.MaxNum
	outside, none := impl.FociResult{Code: impl.ErrRange}, impl.FociResult{Code: impl.ErrNone}
	for _, c := range []struct {
		m    impl.Matrix
		want impl.FociResult
	}{
		{whole(2, 3, -1, 7), impl.FociResult{Focal: frac(1, 1), Front: frac(7, 1), Back: frac(2, 1)}},
		{whole(2, 3, 5, 7), impl.FociResult{Focal: frac(-1, 5), Front: frac(-7, 5), Back: frac(-2, 5)}},
		{whole(2, 3, -5, -7), impl.FociResult{Focal: frac(1, 5), Front: frac(-7, 5), Back: frac(2, 5)}},
		{matrix(frac(4, 5), frac(10, 1), frac(-3, 250), frac(11, 10)), impl.FociResult{Focal: frac(250, 3), Front: frac(275, 3), Back: frac(200, 3)}},
		{whole(0, 3, -4, 0), impl.FociResult{Focal: frac(1, 4), Front: frac(0, 1), Back: frac(0, 1)}},
		{matrix(frac(1, 1), frac(m, 1), frac(-1, m), frac(-1, 1)), impl.FociResult{Focal: frac(m, 1), Front: frac(-m, 1), Back: frac(m, 1)}},
		{whole(1, m, m, -1), impl.FociResult{Focal: frac(-1, m), Front: frac(1, m), Back: frac(-1, m)}},
		{whole(m, m, 1, m), impl.FociResult{Focal: frac(-1, 1), Front: frac(-m, 1), Back: frac(-m, 1)}},
		{matrix(frac(1, 1), frac(0, 1), frac(1, m), frac(2, 1)), outside}, {matrix(frac(2, 1), frac(0, 1), frac(1, m), frac(1, 1)), outside},
		{matrix(frac(1, 1), frac(0, 1), frac(-1, m), frac(m, 1)), outside}, {matrix(frac(m, 1), frac(0, 1), frac(-1, m), frac(1, 1)), outside},
		{matrix(frac(1, 1), frac(0, 1), frac(m, 1), frac(1, 2)), outside}, {matrix(frac(1, 2), frac(0, 1), frac(m, 1), frac(1, 1)), outside},
		{matrix(frac(1, m), frac(0, 1), frac(2, 1), frac(1, m)), outside},
		{whole(1, 0, 0, 1), none}, {whole(0, 0, 0, 0), none}, {whole(m, m, 0, -m), none}, {matrix(frac(1, m), frac(1, 2), frac(0, 1), frac(m, 1)), none},
	} {
		holdFoci(t, c.m, c.want)
	}
}

func TestFociOfWrongMatrices(t *testing.T) {
	const m = impl.MaxNum
	want := impl.FociResult{Code: impl.ErrForm}
	for _, right := range []impl.Matrix{whole(1, 0, 0, 1), whole(1, 2, 3, 4), matrix(frac(m, 1), frac(m, 1), frac(1, m), frac(m, 1))} {
		spoilt(right, func(wrong impl.Matrix) { holdFoci(t, wrong, want) })
	}
	holdFoci(t, impl.Matrix{}, want)
}

func TestFociOfMany(t *testing.T) {
	d := fracsFrom(79)
	seen := map[int64]int{}
	for range 20000 {
		m := d.matrix()
		want := fociByWords(m)
		seen[want.Code]++
		holdFoci(t, m, want)
	}
	if seen[impl.OK] < 5000 || seen[impl.ErrRange] < 500 || seen[impl.ErrNone] < 100 {
		t.Error("too few of a kind:", seen)
	}
}

// lastOf is the last ray of a trace, false where it is not reckoned.
func lastOf(list []impl.Part, ray impl.PlainRay) (impl.PlainRay, bool) {
	told := impl.TracePlain(list, ray)
	if told.Code != impl.OK {
		return impl.PlainRay{}, false
	}
	return told.List[len(told.List)-1], true
}

func gapLong(f impl.Frac) []impl.Part {
	return []impl.Part{{Kind: impl.PartGap, Value: f}}
}

func TestFociAreWhereLightGoes(t *testing.T) {
	d := fracsFrom(80)
	ahead, behind := 0, 0
	for range 20000 {
		list := d.parts(6)
		m := impl.MatrixOf(list)
		if m.Code != impl.OK {
			continue
		}
		foci := impl.Foci(m.Matrix)
		if foci.Code != impl.OK {
			continue
		}
		if leaves, ok := lastOf(slices.Concat(gapLong(foci.Front), list), rayOf(frac(0, 1), frac(1, 1))); ok {
			ahead++
			if leaves.U != frac(0, 1) || leaves.Y != foci.Focal {
				t.Errorf("%v: light from the front focus %v leaves as %v", list, foci, leaves)
			}
		}
		if comes, ok := lastOf(slices.Concat(list, gapLong(foci.Back)), rayOf(frac(1, 1), frac(0, 1))); ok {
			behind++
			slope := impl.DivFrac(frac(-1, 1), foci.Focal)
			if comes.Y != frac(0, 1) || comes.U != slope.Frac {
				t.Errorf("%v: parallel light comes to the back focus %v as %v", list, foci, comes)
			}
		}
		holdImage(t, m.Matrix, foci.Front, impl.ImageResult{Code: impl.ErrNone})
	}
	if ahead < 5000 || behind < 5000 {
		t.Error("too few of a kind:", ahead, behind)
	}
}

func TestImageOf(t *testing.T) {
	const m = impl.MaxNum
	lens := matrix(frac(1, 1), frac(0, 1), frac(-1, 50), frac(1, 1))
	none := impl.ImageResult{Code: impl.ErrNone}
	for _, c := range []struct {
		m     impl.Matrix
		front impl.Frac
		want  impl.ImageResult
	}{
		{lens, frac(100, 1), impl.ImageResult{Back: frac(100, 1), Scale: frac(-1, 1)}},
		{lens, frac(75, 1), impl.ImageResult{Back: frac(150, 1), Scale: frac(-2, 1)}},
		{lens, frac(25, 1), impl.ImageResult{Back: frac(-50, 1), Scale: frac(2, 1)}},
		{lens, frac(0, 1), impl.ImageResult{Back: frac(0, 1), Scale: frac(1, 1)}},
		{lens, frac(-50, 1), impl.ImageResult{Back: frac(25, 1), Scale: frac(1, 2)}},
		{lens, frac(50, 1), none},
		{whole(2, 3, 5, 7), frac(11, 1), impl.ImageResult{Back: frac(-25, 62), Scale: frac(-1, 62)}},
		{whole(2, 3, 5, 7), frac(-11, 1), impl.ImageResult{Back: frac(-19, 48), Scale: frac(1, 48)}},
		{whole(2, 3, 5, 7), frac(0, 1), impl.ImageResult{Back: frac(-3, 7), Scale: frac(-1, 7)}},
		{whole(2, 3, 5, 0), frac(0, 1), none}, {whole(2, 3, 0, 0), frac(7, 1), none}, {whole(0, 0, 0, 0), frac(0, 1), none},
		{whole(2, 3, 5, -10), frac(2, 1), none}, {whole(2, 3, 5, 10), frac(-2, 1), none}, {whole(1, 1, 1, m), frac(-m, 1), none},
		{whole(1, 9, 0, 1), frac(4, 1), impl.ImageResult{Back: frac(-13, 1), Scale: frac(1, 1)}},
		{whole(1, 0, 0, 1), frac(m, 1), impl.ImageResult{Back: frac(-m, 1), Scale: frac(1, 1)}},
		{whole(1, 0, 0, -1), frac(m, 1), impl.ImageResult{Back: frac(m, 1), Scale: frac(1, 1)}},
		{whole(1, 0, 0, m), frac(-1, 1), impl.ImageResult{Back: frac(1, m), Scale: frac(1, 1)}},
	} {
		holdImage(t, c.m, c.front, c.want)
	}
}

// Each case leaves the bounds first at the step that is told; where it can be, what is reckoned of it later would lie within them again.
func TestImageOfBeyondTheBounds(t *testing.T) {
	const m = impl.MaxNum
	for _, c := range []struct {
		step  int
		m     impl.Matrix
		front impl.Frac
	}{
		{1, whole(1, 1, 2, -m), frac(m, 1)}, {1, whole(1, 1, m, -m), frac(2, 1)}, {1, matrix(frac(1, 1), frac(1, 1), frac(1, m), frac(1, 1)), frac(1, 2)},
		{2, whole(1, 0, 1, 1), frac(m, 1)}, {2, whole(1, 0, 1, -1), frac(-m, 1)}, {2, matrix(frac(1, 1), frac(0, 1), frac(1, 1), frac(1, 3)), frac(1, m)},
		{3, whole(2, -m, 0, 1), frac(m, 1)}, {3, whole(m, -m, 0, m), frac(2, 1)}, {3, matrix(frac(1, 2), frac(1, 1), frac(0, 1), frac(1, 1)), frac(1, m)},
		{4, whole(1, 1, 0, m), frac(m, 1)}, {4, whole(1, -1, 0, 2), frac(-m, 1)}, {4, matrix(frac(1, 1), frac(1, 3), frac(0, 1), frac(1, 1)), frac(1, m)},
		{5, matrix(frac(1, 1), frac(0, 1), frac(0, 1), frac(1, 2)), frac(m, 1)}, {5, whole(1, 1, 0, m), frac(-1, 2)},
		{7, whole(m, 0, 2, -1), frac(1, 1)}, {7, whole(0, m, 2, -1), frac(1, 1)}, {7, matrix(frac(1, 1), frac(-1, 1), frac(1, 40000), frac(25001, 1)), frac(0, 1)},
		{8, whole(1, -m, 1, 1), frac(0, 1)}, {8, whole(-1, m, 1, 1), frac(0, 1)}, {8, matrix(frac(1, 3), frac(-1, 1), frac(1, 1), frac(m, 1)), frac(0, 1)},
	} {
		want, step := imageByWords(c.m, c.front)
		if step != c.step {
			t.Errorf("the test is wrong: step %d of %v, %v: %d, %v", c.step, c.m, c.front, step, want)
			continue
		}
		holdImage(t, c.m, c.front, impl.ImageResult{Code: impl.ErrRange})
	}
}

// What t leaves open is asked ahead of all that t is not made of.
func TestImageOfNothingFirst(t *testing.T) {
	const m = impl.MaxNum
	none, outside := impl.ImageResult{Code: impl.ErrNone}, impl.ImageResult{Code: impl.ErrRange}
	holdImage(t, whole(m, m, 1, -2), frac(2, 1), none)
	holdImage(t, whole(2, m, 0, 0), frac(m, 1), none)
	holdImage(t, whole(1, m, -1, m), frac(m, 1), none)
	holdImage(t, whole(0, 0, 2, 0), frac(m, 1), outside)
	holdImage(t, whole(m, m, 1, -2), frac(3, 1), outside)
}

func TestImageOfWrongOnes(t *testing.T) {
	const m = impl.MaxNum
	want := impl.ImageResult{Code: impl.ErrForm}
	all := []impl.Matrix{whole(1, 2, 3, 4), whole(1, 2, 0, 0), whole(m, m, m, m), whole(0, 0, 0, 0)}
	for _, right := range all {
		for _, front := range []impl.Frac{frac(0, 1), frac(m, 1), frac(-1, 2), {}} {
			spoilt(right, func(wrong impl.Matrix) { holdImage(t, wrong, front, want) })
		}
		for _, front := range wrongFracs() {
			holdImage(t, right, front, want)
		}
	}
	holdImage(t, impl.Matrix{}, impl.Frac{}, want)
}

func TestImageOfMany(t *testing.T) {
	d := fracsFrom(81)
	seen, steps := map[int64]int{}, map[int]int{}
	for range 40000 {
		m, front := d.matrix(), d.frac()
		if d.below(8) == 0 && m.C.Num != 0 { // t is seldom 0 by itself
			if exact := impl.DivFrac(frac(-m.D.Num, m.D.Den), m.C); exact.Code == impl.OK {
				front = exact.Frac
			}
		}
		want, step := imageByWords(m, front)
		seen[want.Code]++
		steps[step]++
		holdImage(t, m, front, want)
	}
	if seen[impl.OK] < 5000 || seen[impl.ErrRange] < 5000 || seen[impl.ErrNone] < 1000 {
		t.Error("too few of a kind:", seen)
	}
	for _, step := range []int{1, 2, 3, 4, 5, 7, 8} {
		if steps[step] < 10 {
			t.Error("too few of a step:", steps)
		}
	}
}

func TestImagesAreWhereLightCrosses(t *testing.T) {
	d := fracsFrom(82)
	crossed, higher := 0, 0
	for range 20000 {
		list, front, ray := d.parts(6), d.frac(), d.ray()
		m := impl.MatrixOf(list)
		if m.Code != impl.OK {
			continue
		}
		image := impl.ImageOf(m.Matrix, front)
		if image.Code != impl.OK {
			continue
		}
		way := slices.Concat(gapLong(front), list, gapLong(image.Back))
		if at, ok := lastOf(way, rayOf(frac(0, 1), ray.U)); ok {
			crossed++
			if at.Y != frac(0, 1) {
				t.Errorf("%v, %v ahead: at the image %v light with the slope %v is at %v", list, front, image, ray.U, at)
			}
		}
		at, ok := lastOf(way, ray)
		tall := impl.MulFrac(image.Scale, ray.Y)
		if ok && tall.Code == impl.OK {
			higher++
			if at.Y != tall.Frac {
				t.Errorf("%v, %v ahead: at the image %v the ray %v is at %v", list, front, image, ray, at)
			}
		}
	}
	if crossed < 5000 || higher < 5000 {
		t.Error("too few of a kind:", crossed, higher)
	}
}

// The same call, made again after other ones, answers the same; none of them panics.
func TestPlainAnswersHangOnArgumentsAlone(t *testing.T) {
	type answers struct {
		fault            int64
		made, joined     impl.MatrixResult
		swapped          impl.Matrix
		det, invariant   impl.FracResult
		code             int64
		count            int
		last             impl.PlainRay
		foci             impl.FociResult
		image, fromFront impl.ImageResult
	}
	type question struct {
		m     impl.Matrix
		list  []impl.Part
		ray   impl.PlainRay
		front impl.Frac
	}
	ask := func(q question) answers {
		part := append(slices.Clone(q.list), impl.Part{})[0]
		made, trace := impl.MatrixOf(q.list), impl.TracePlain(q.list, q.ray)
		last := append([]impl.PlainRay{{}}, trace.List...)
		foci := impl.Foci(q.m)
		return answers{impl.PartFault(part), made, impl.JoinMatrix(q.m, made.Matrix), impl.SwapMatrix(q.m), impl.DetMatrix(q.m),
			impl.InvariantOf(q.ray, last[len(last)-1]), trace.Code, len(trace.List), last[len(last)-1],
			foci, impl.ImageOf(q.m, q.front), impl.ImageOf(q.m, foci.Front)}
	}
	d := fracsFrom(83)
	wrong := wrongFracs()
	questions := make([]question, 3000)
	for i := range questions {
		q := question{d.matrix(), d.parts(6), d.ray(), d.frac()}
		bad := wrong[d.below(int64(len(wrong)))]
		switch d.below(8) {
		case 0:
			*fieldsOf(&q.m)[d.below(4)] = bad
		case 1:
			q.list = append(q.list, impl.Part{Kind: d.below(4), Value: bad})
		case 2:
			q.ray.U = bad
		case 3:
			q.front = bad
		}
		questions[i] = q
	}
	first := make([]answers, len(questions))
	for i, q := range questions {
		first[i] = ask(q)
	}
	for i := len(questions) - 1; i >= 0; i-- {
		if ask(questions[i]) != first[i] {
			t.Errorf("%v: another answer the second time", questions[i])
		}
	}
}
