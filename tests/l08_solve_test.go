package tests

import (
	"math"
	"slices"
	"strconv"
	"testing"

	"loop.example/g00049/impl"
)

// solveByWords is what the document asks SolveLens for, reckoned without bounds and asked at each step whether it is a fraction.
func solveByWords(l impl.Lens, config int64) impl.PlainLens {
	if code := lensFaultByWords(l); code != impl.OK {
		return impl.PlainLens{Code: code}
	}
	if config < 0 || len(l.Zooms) == 0 && config > 0 || len(l.Zooms) > 0 && config >= int64(len(l.Zooms[0].Gaps)) {
		return impl.PlainLens{Code: impl.ErrNone}
	}
	radii, surfs := []impl.Frac{}, []impl.PlainSurf{}
	for i, s := range l.Surfs {
		steps := exactSteps{}
		r, p := s.Radius.Num, impl.PlainSurf{Curve: frac(0, 1), Gap: s.Gap.Num, Index: frac(1, 1), Semi: s.Semi, Conic: s.Conic, Stop: s.Stop}
		if s.Radius.Kind == impl.ValPick {
			r = toldOf(steps.mul(ratOf(s.Radius.Num), ratOf(radii[s.Radius.From]))).Frac
		}
		if steps.left > 0 {
			return impl.PlainLens{Code: impl.ErrRange, At: int64(i)}
		}
		if r.Num != 0 {
			p.Curve = toldOf(steps.by(ratOf(frac(1, 1)), ratOf(r))).Frac
		}
		for _, m := range l.Media {
			if m.Name == s.Medium {
				p.Index = m.Index
			}
		}
		for _, z := range l.Zooms {
			if z.Surf == int64(i) {
				p.Gap = z.Gaps[config]
			}
		}
		if s.Gap.Kind == impl.ValPick {
			p.Gap = toldOf(steps.mul(ratOf(s.Gap.Num), ratOf(surfs[s.Gap.From].Gap))).Frac
		}
		if s.Gap.Kind == impl.ValSolve {
			told := focusByWords(surfs, p)
			if told.Code != impl.OK {
				return impl.PlainLens{Code: told.Code, At: int64(i)}
			}
			p.Gap = told.Frac
		}
		if steps.left > 0 {
			return impl.PlainLens{Code: impl.ErrRange, At: int64(i)}
		}
		radii, surfs = append(radii, r), append(surfs, p)
	}
	return impl.PlainLens{Surfs: surfs}
}

// focusByWords is the gap behind the surface p, which stands behind the others, at which light crosses the axis.
func focusByWords(surfs []impl.PlainSurf, p impl.PlainSurf) impl.FracResult {
	p.Gap = frac(0, 1)
	parts := partsByWords(append(slices.Clone(surfs), p))
	if parts.Code != impl.OK {
		return impl.FracResult{Code: parts.Code}
	}
	m := matrixByWords(parts.List[:len(parts.List)-1])
	if m.Code != impl.OK {
		return impl.FracResult{Code: m.Code}
	}
	foci := fociByWords(m.Matrix)
	if foci.Code != impl.OK {
		return impl.FracResult{Code: foci.Code}
	}
	steps := exactSteps{}
	return toldOf(steps.mul(ratOf(foci.Back), ratOf(p.Index)))
}

// partsByWords is what the document asks PartsOf for.
func partsByWords(list []impl.PlainSurf) impl.PartList {
	if len(list) > 40 {
		return impl.PartList{Code: impl.ErrMany}
	}
	parts := []impl.Part{}
	for i, s := range list {
		if !noneWrong(s.Curve, s.Gap, s.Index) || ratOf(s.Index).Sign() <= 0 {
			return impl.PartList{Code: impl.ErrForm}
		}
		ahead := frac(1, 1)
		if i > 0 {
			ahead = list[i-1].Index
		}
		steps := exactSteps{}
		power := steps.mul(steps.less(ratOf(s.Index), ratOf(ahead)), ratOf(s.Curve))
		gap := steps.by(ratOf(s.Gap), ratOf(s.Index))
		if steps.left > 0 {
			return impl.PartList{Code: impl.ErrRange}
		}
		parts = append(parts, impl.Part{Kind: impl.PartPower, Value: toldOf(power).Frac}, impl.Part{Kind: impl.PartGap, Value: toldOf(gap).Frac})
	}
	return impl.PartList{List: parts}
}

func samePlain(a impl.PlainLens, b impl.PlainLens) bool {
	return a.Code == b.Code && a.At == b.At && slices.Equal(a.Surfs, b.Surfs)
}

// holdSolve asks for an answer, and for the same one again in memory of its own.
func holdSolve(t *testing.T, what string, l impl.Lens, config int64, want impl.PlainLens) {
	t.Helper()
	got, again := impl.PlainLens{}, impl.PlainLens{}
	if !lensLeftAlone(l, func() { got, again = impl.SolveLens(l, config), impl.SolveLens(l, config) }) {
		t.Errorf("%s: SolveLens changes %s", what, brief(l))
	}
	if !samePlain(got, want) || !samePlain(again, want) {
		t.Errorf("%s: SolveLens(%s, %d) = %s, want %s", what, brief(l), config, brief(got), brief(want))
	}
	apart(t, [][]impl.PlainSurf{got.Surfs}, [][]impl.PlainSurf{again.Surfs})
}

func solveStuck(code int64, at int64) impl.PlainLens {
	return impl.PlainLens{Code: code, At: at}
}

// plain is a surface made plain, with nothing but its curve, gap and index.
func plain(curve impl.Frac, gap impl.Frac, index impl.Frac) impl.PlainSurf {
	return impl.PlainSurf{Curve: curve, Gap: gap, Index: index, Semi: frac(0, 1), Conic: frac(0, 1)}
}

func TestSolveFullLens(t *testing.T) {
	for config, c := range []struct{ first, third, fourth, last impl.Frac }{
		{frac(0, 1), frac(0, 1), frac(1, 1), frac(1829600, 76567)},
		{frac(15, 1), frac(15, 2), frac(2, 1), frac(348605725, 16002977)},
		{frac(-75, 1), frac(-75, 2), frac(3, 1), frac(24214900, 817473)},
	} {
		want := []impl.PlainSurf{
			{Curve: frac(1, 50), Gap: c.first, Index: frac(3, 2), Semi: frac(10, 1), Conic: frac(0, 1), Stop: true},
			plain(frac(-1, 50), frac(1, 2), frac(1, 1)),
			{Curve: frac(0, 1), Gap: c.third, Index: frac(8, 5), Semi: frac(0, 1), Conic: frac(-1, 2)},
			plain(frac(-1, 75), c.fourth, frac(3, 2)),
			{Curve: frac(-1, 25), Gap: c.last, Index: frac(1, 1), Semi: frac(1, 3), Conic: frac(2, 1)},
		}
		holdSolve(t, "full", copyOfLens(fullLens()), int64(config), impl.PlainLens{Surfs: want})
		if led := lastHeight(t, want); led != frac(0, 1) {
			t.Errorf("config %d: light that came in parallel to the axis is led to the height %v", config, led)
		}
	}
}

// lastHeight is where light ends that came in at the height 1, parallel to the axis.
func lastHeight(t *testing.T, list []impl.PlainSurf) impl.Frac {
	t.Helper()
	parts := impl.PartsOf(list)
	traced := impl.TracePlain(parts.List, rayOf(frac(1, 1), frac(0, 1)))
	if parts.Code != impl.OK || traced.Code != impl.OK {
		t.Fatal(parts, traced)
	}
	return traced.List[len(traced.List)-1].Y
}

func TestSolveCodes(t *testing.T) {
	holdSolve(t, "the zero value", impl.Lens{}, 0, solveStuck(impl.ErrForm, 0))
	configs := []int64{0, 1, 2, 3, -1, math.MinInt64, math.MaxInt64}
	for i, c := range wrongChanges() {
		config := configs[i%len(configs)]
		holdSolve(t, c.what, changedLens(fullLens(), c.change), config, solveStuck(impl.ErrForm, 0))
	}
	for _, c := range tooManyChanges() {
		for _, config := range configs {
			holdSolve(t, c.what, changedLens(fullLens(), c.change), config, solveStuck(impl.ErrMany, 0))
		}
	}
	for _, config := range []int64{-1, -2, 3, 4, 16, 1 << 32, math.MinInt64, math.MaxInt64} {
		holdSolve(t, "no such config", fullLens(), config, solveStuck(impl.ErrNone, 0))
	}
	for _, config := range []int64{-1, 1, 2, math.MinInt64, math.MaxInt64} {
		holdSolve(t, "no such config without zooms", lensOf(nil, likeSurfs(2)...), config, solveStuck(impl.ErrNone, 0))
	}
	// That there is no such config comes ahead of what can't be reckoned.
	beyond := lensOf(nil, plainSurf(toldVal(impl.MaxNum, 1), toldVal(1, 1), "air"), plainSurf(pickVal(0, 2, 1), toldVal(1, 1), "air"))
	holdSolve(t, "beyond", beyond, 1, solveStuck(impl.ErrNone, 0))
	holdSolve(t, "beyond", beyond, 0, solveStuck(impl.ErrRange, 1))
}

func TestSolveEachConfig(t *testing.T) {
	for _, gaps := range []int{1, 2, 16} {
		l := lensOf(nil, likeSurfs(2)...)
		l.Zooms = []impl.Zoom{{Surf: 1}}
		for i := range gaps {
			l.Zooms[0].Gaps = append(l.Zooms[0].Gaps, frac(int64(i)+70, 1))
		}
		for i := range int64(gaps) {
			holdSolve(t, "zoom", copyOfLens(l), i, impl.PlainLens{Surfs: []impl.PlainSurf{plain(frac(1, 5), frac(1, 1), frac(1, 1)), plain(frac(1, 5), frac(i+70, 1), frac(1, 1))}})
		}
		holdSolve(t, "zoom", l, int64(gaps), solveStuck(impl.ErrNone, 0))
		holdSolve(t, "zoom", l, -1, solveStuck(impl.ErrNone, 0))
	}
}

func TestSolveRadii(t *testing.T) {
	for _, r := range rightFracs() {
		curve := frac(0, 1)
		if r.Num != 0 {
			curve = toldOf(new(exactSteps).by(ratOf(frac(1, 1)), ratOf(r))).Frac
		}
		holdSolve(t, "radius", lensOf(nil, plainSurf(toldVal(r.Num, r.Den), toldVal(3, 1), "air")), 0, impl.PlainLens{Surfs: []impl.PlainSurf{plain(curve, frac(3, 1), frac(1, 1))}})
	}
	// A radius is picked up of a radius, not of a curve; also of one that is picked up itself.
	l := lensOf(nil, plainSurf(toldVal(4, 1), toldVal(0, 1), "air"), plainSurf(pickVal(0, 3, 2), toldVal(0, 1), "air"), plainSurf(pickVal(1, -2, 3), toldVal(0, 1), "air"), plainSurf(pickVal(0, 0, 1), toldVal(0, 1), "air"), plainSurf(pickVal(3, 5, 1), toldVal(0, 1), "air"), plainSurf(pickVal(2, 1, 1), toldVal(0, 1), "air"))
	want := []impl.PlainSurf{}
	for _, curve := range []impl.Frac{frac(1, 4), frac(1, 6), frac(-1, 4), frac(0, 1), frac(0, 1), frac(-1, 4)} {
		want = append(want, plain(curve, frac(0, 1), frac(1, 1)))
	}
	holdSolve(t, "picked-up radii", l, 0, impl.PlainLens{Surfs: want})
}

func TestSolveGaps(t *testing.T) {
	// A gap is picked up of what the other came to: of a number, of a pick-up, of a zoom.
	l := lensOf([]impl.Medium{medium("A", 2, 1)}, plainSurf(toldVal(0, 1), toldVal(4, 1), "A"), plainSurf(toldVal(0, 1), pickVal(0, 3, 2), "air"), plainSurf(toldVal(0, 1), pickVal(1, -1, 3), "A"), plainSurf(toldVal(0, 1), toldVal(-8, 1), "A"), plainSurf(toldVal(0, 1), pickVal(3, 0, 1), "air"))
	want := func(gaps ...impl.Frac) impl.PlainLens {
		list := []impl.PlainSurf{}
		for i, g := range gaps {
			list = append(list, plain(frac(0, 1), g, []impl.Frac{frac(2, 1), frac(1, 1), frac(2, 1), frac(2, 1), frac(1, 1)}[i]))
		}
		return impl.PlainLens{Surfs: list}
	}
	holdSolve(t, "gaps", l, 0, want(frac(4, 1), frac(6, 1), frac(-2, 1), frac(-8, 1), frac(0, 1)))
	l.Zooms = []impl.Zoom{{Surf: 0, Gaps: wholes(10, -1)}}
	holdSolve(t, "zoomed", l, 0, want(frac(10, 1), frac(15, 1), frac(-5, 1), frac(-8, 1), frac(0, 1)))
	holdSolve(t, "zoomed", l, 1, want(frac(-1, 1), frac(-3, 2), frac(1, 2), frac(-8, 1), frac(0, 1)))
}

func TestSolveIndices(t *testing.T) {
	media := []impl.Medium{medium("A", 3, 2), medium("\u03bb", 1, impl.MaxNum), medium("a", impl.MaxNum, 1)}
	list, want := []impl.Surf{}, []impl.PlainSurf{}
	for _, c := range []impl.Medium{media[2], medium("air", 1, 1), media[0], media[1], medium("air", 1, 1)} {
		list = append(list, plainSurf(toldVal(2, 1), toldVal(3, 1), c.Name))
		want = append(want, plain(frac(1, 2), frac(3, 1), c.Index))
	}
	holdSolve(t, "indices", lensOf(media, list...), 0, impl.PlainLens{Surfs: want})
}

func TestSolvedGaps(t *testing.T) {
	glass := []impl.Medium{medium("A", 3, 2), medium("B", 2, 1)}
	for what, c := range map[string]struct {
		surfs []impl.Surf
		gap   impl.Frac
	}{
		"one surface":                    {[]impl.Surf{plainSurf(toldVal(50, 1), solveVal(), "A")}, frac(150, 1)},
		"one surface, hollow":            {[]impl.Surf{plainSurf(toldVal(-50, 1), solveVal(), "A")}, frac(-150, 1)},
		"thin lens":                      {[]impl.Surf{plainSurf(toldVal(50, 1), toldVal(0, 1), "A"), plainSurf(pickVal(0, -1, 1), solveVal(), "air")}, frac(50, 1)},
		"plane behind":                   {[]impl.Surf{plainSurf(toldVal(50, 1), toldVal(30, 1), "A"), plainSurf(toldVal(0, 1), solveVal(), "air")}, frac(80, 1)},
		"a ball":                         {[]impl.Surf{plainSurf(toldVal(10, 1), toldVal(20, 1), "A"), plainSurf(toldVal(-10, 1), solveVal(), "air")}, frac(5, 1)},
		"a ball that leads to its end":   {[]impl.Surf{plainSurf(toldVal(10, 1), toldVal(20, 1), "B"), plainSurf(toldVal(-10, 1), solveVal(), "air")}, frac(0, 1)},
		"into a medium":                  {[]impl.Surf{plainSurf(toldVal(50, 1), toldVal(0, 1), "A"), plainSurf(toldVal(25, 1), solveVal(), "B")}, frac(200, 3)},
		"the same medium all the way on": {[]impl.Surf{plainSurf(toldVal(50, 1), toldVal(30, 1), "A"), plainSurf(toldVal(7, 1), solveVal(), "A")}, frac(120, 1)},
	} {
		got := impl.SolveLens(lensOf(glass, c.surfs...), 0)
		if got.Code != impl.OK || got.Surfs[len(got.Surfs)-1].Gap != c.gap {
			t.Errorf("%s: %v, want the gap %v", what, got, c.gap)
		}
		holdSolve(t, what, lensOf(glass, c.surfs...), 0, solveByWords(lensOf(glass, c.surfs...), 0))
		if led := lastHeight(t, got.Surfs); led != frac(0, 1) {
			t.Errorf("%s: the height %v", what, led)
		}
	}
}

func TestSolvedGapsWithoutFoci(t *testing.T) {
	glass := []impl.Medium{medium("A", 3, 2), medium("One", 1, 1), medium("B", 2, 1)}
	for what, surfs := range map[string][]impl.Surf{
		"a plane":            {plainSurf(toldVal(0, 1), solveVal(), "A")},
		"air alone":          {plainSurf(toldVal(50, 1), solveVal(), "air")},
		"an index of 1":      {plainSurf(toldVal(50, 1), solveVal(), "One")},
		"planes":             {plainSurf(toldVal(0, 1), toldVal(5, 1), "A"), plainSurf(toldVal(0, 1), toldVal(7, 1), "air"), plainSurf(toldVal(0, 1), solveVal(), "A")},
		"undone right there": {plainSurf(toldVal(50, 1), toldVal(0, 1), "A"), plainSurf(toldVal(50, 1), solveVal(), "air")},
		"undone by a medium": {plainSurf(toldVal(50, 1), toldVal(0, 1), "A"), plainSurf(toldVal(-50, 1), solveVal(), "B")},
		"a telescope":        {plainSurf(toldVal(50, 1), toldVal(0, 1), "A"), plainSurf(toldVal(-50, 1), toldVal(100, 1), "air"), plainSurf(toldVal(50, 1), toldVal(0, 1), "A"), plainSurf(toldVal(-50, 1), solveVal(), "air")},
	} {
		holdSolve(t, what, lensOf(glass, surfs...), 0, solveStuck(impl.ErrNone, int64(len(surfs)-1)))
		// The last gap's own number is no part of what is solved.
		surfs[len(surfs)-1].Gap = impl.Val{Kind: impl.ValSolve, Num: frac(7, 3), From: 5}
		holdSolve(t, what, lensOf(glass, surfs...), 0, solveStuck(impl.ErrNone, int64(len(surfs)-1)))
	}
}

// Each step of a solved gap leaves the bounds in turn; with a number in its place the lens can be told.
func TestSolveBeyondTheBounds(t *testing.T) {
	const m = impl.MaxNum
	media := []impl.Medium{medium("A", 3, 2), medium("Half", 1, 2), medium("Least", 1, m), medium("Less", 1, m-1), medium("Most", m, 1), medium("Far", m-1, 2), medium("Odd", 999999937, 999999929)}
	flat := plainSurf(toldVal(0, 1), toldVal(0, 1), "air")
	for what, surfs := range map[string][]impl.Surf{
		"a difference of indices":              {plainSurf(toldVal(1, 1), toldVal(0, 1), "Least"), plainSurf(toldVal(1, 1), solveVal(), "Less")},
		"a difference of indices at a plane":   {plainSurf(toldVal(1, 1), toldVal(0, 1), "Least"), plainSurf(toldVal(0, 1), solveVal(), "Less")},
		"an earlier difference of indices":     {plainSurf(toldVal(1, 1), toldVal(0, 1), "Least"), plainSurf(toldVal(1, 1), toldVal(0, 1), "Less"), flat, plainSurf(toldVal(1, 1), solveVal(), "A")},
		"a power":                              {plainSurf(toldVal(m, 1), solveVal(), "A")},
		"a power above":                        {plainSurf(toldVal(1, 3), solveVal(), "Most")},
		"an earlier power":                     {plainSurf(toldVal(m, 1), toldVal(0, 1), "A"), flat, plainSurf(toldVal(5, 1), solveVal(), "A")},
		"a gap by its index":                   {plainSurf(toldVal(5, 1), toldVal(m, 1), "Half"), plainSurf(toldVal(5, 1), solveVal(), "air")},
		"a gap by its index, below 0":          {plainSurf(toldVal(5, 1), toldVal(-m, 1), "Half"), plainSurf(toldVal(5, 1), solveVal(), "air")},
		"a product of matrices":                {plainSurf(toldVal(1, m/2), toldVal(m, 1), "A"), plainSurf(toldVal(1, 2), solveVal(), "air")},
		"a sum of matrices":                    {plainSurf(toldVal(-1, m), toldVal(0, 1), "A"), plainSurf(toldVal(1, m), toldVal(0, 1), "air"), plainSurf(toldVal(-1, m), toldVal(0, 1), "A"), plainSurf(toldVal(1, m), toldVal(0, 1), "air"), plainSurf(toldVal(-1, m), solveVal(), "A")},
		"the foci: what lies behind":           {plainSurf(toldVal(3, 1), toldVal(m, 1), "A"), plainSurf(toldVal(m/2, 1), solveVal(), "air")},
		"what lies behind times the index":     {plainSurf(toldVal(m/2+1, 2), solveVal(), "Odd")},
		"a focus that is too far times a half": {plainSurf(toldVal(m-1, 1), solveVal(), "Far")},
	} {
		l := lensOf(media, surfs...)
		last := len(surfs) - 1
		if want := solveByWords(l, 0); want.Code != impl.ErrRange || want.At != int64(last) {
			t.Errorf("%s can be reckoned: %v", what, want)
		}
		holdSolve(t, what, l, 0, solveStuck(impl.ErrRange, int64(last)))
		told := changedLens(l, func(l *impl.Lens) { l.Surfs[last].Gap = toldVal(1, 1) })
		holdSolve(t, what, told, 0, solveByWords(told, 0))
		if got := impl.SolveLens(told, 0); got.Code != impl.OK {
			t.Errorf("%s: %v", what, got)
		}
	}
}

// The foci's numbers leave the bounds one by one, though the others do not.
func TestSolveFociBeyondTheBounds(t *testing.T) {
	const m = impl.MaxNum
	far, none := 0, 0
	// Two thin surfaces apart, whose matrix is (1 - p g, g; -(p + q - p q g), 1 - q g).
	for _, p := range []int64{1, 2, -3, m / 1000, 999983} {
		for _, q := range []int64{1, -2, 3, m / 1000, 999979} {
			for _, g := range []int64{1, 2, 1000, 31607} {
				l := lensOf([]impl.Medium{medium("B", 2, 1)}, plainSurf(toldVal(p, 1), toldVal(2*g, 1), "B"), plainSurf(toldVal(-q, 1), solveVal(), "air"))
				want := solveByWords(l, 0)
				switch want.Code {
				case impl.ErrRange:
					far++
				case impl.ErrNone:
					none++
				}
				holdSolve(t, "apart", l, 0, want)
			}
		}
	}
	if far < 10 || none < 1 {
		t.Errorf("%d are too far, %d have no focus", far, none)
	}
	// Front is out of bounds, Back is not, and Back out of bounds, Front not: neither can be reckoned.
	front, back := 0, 0
	d := fracsFrom(83)
	for range 20000 {
		l := lensOf([]impl.Medium{medium("B", 2, 1)}, plainSurf(valOf(d.frac()), valOf(d.frac()), "B"), plainSurf(valOf(d.frac()), solveVal(), "air"))
		surfs := solveByWords(changedLens(l, func(l *impl.Lens) { l.Surfs[1].Gap = toldVal(0, 1) }), 0)
		parts := partsByWords(surfs.Surfs)
		if parts.Code != impl.OK {
			continue
		}
		through := matrixByWords(parts.List[:3])
		if through.Code != impl.OK || through.Matrix.C.Num == 0 {
			continue
		}
		ahead := toldOf(new(exactSteps).by(ratOf(through.Matrix.D), ratOf(through.Matrix.C)))
		behind := toldOf(new(exactSteps).by(ratOf(through.Matrix.A), ratOf(through.Matrix.C)))
		if ahead.Code == impl.OK && behind.Code != impl.OK {
			back++
			holdSolve(t, "back", l, 0, solveStuck(impl.ErrRange, 1))
		}
		if ahead.Code != impl.OK && behind.Code == impl.OK {
			front++
			holdSolve(t, "front", l, 0, solveStuck(impl.ErrRange, 1))
		}
	}
	if front == 0 || back == 0 {
		t.Errorf("%d by Front alone, %d by Back alone", front, back)
	}
}

func valOf(f impl.Frac) impl.Val {
	return toldVal(f.Num, f.Den)
}

// Picked-up radii and gaps that leave the bounds, each at its surface, the first of them told.
func TestSolvePickUpsBeyondTheBounds(t *testing.T) {
	const m = impl.MaxNum
	for _, c := range []struct{ a, b impl.Frac }{{frac(m, 1), frac(2, 1)}, {frac(-m, 1), frac(3, 2)}, {frac(1, m), frac(1, 2)}, {frac(m, m-1), frac(m-2, m-3)}, {frac(31623, 31622), frac(31627, 31621)}} {
		for at := 1; at <= 4; at++ {
			surfs := slices.Repeat([]impl.Surf{plainSurf(valOf(c.a), valOf(c.a), "air")}, 5)
			surfs[at].Radius = pickVal(0, c.b.Num, c.b.Den)
			holdSolve(t, "a radius", lensOf(nil, surfs...), 0, solveStuck(impl.ErrRange, int64(at)))
			surfs[at].Radius = valOf(c.a)
			surfs[at].Gap = pickVal(0, c.b.Num, c.b.Den)
			holdSolve(t, "a gap", lensOf(nil, surfs...), 0, solveStuck(impl.ErrRange, int64(at)))
			// One more of a later surface is not come to.
			surfs[4].Radius = pickVal(0, c.b.Num, c.b.Den)
			holdSolve(t, "a gap and a radius", lensOf(nil, surfs...), 0, solveStuck(impl.ErrRange, int64(at)))
			// Nor is a focus that there is not.
			surfs[4] = plainSurf(toldVal(0, 1), solveVal(), "air")
			if at < 4 {
				holdSolve(t, "a gap and no focus", lensOf(nil, surfs...), 0, solveStuck(impl.ErrRange, int64(at)))
			}
		}
		// At one surface the radius is told ahead of the gap.
		last := plainSurf(pickVal(0, c.b.Num, c.b.Den), solveVal(), "air")
		holdSolve(t, "a radius ahead of its gap", lensOf(nil, plainSurf(valOf(c.a), toldVal(1, 1), "air"), last), 0, solveStuck(impl.ErrRange, 1))
	}
	// A zoom's gap that is picked up leaves the bounds at one config alone.
	l := lensOf(nil, plainSurf(toldVal(1, 1), toldVal(m, 1), "air"), plainSurf(toldVal(1, 1), pickVal(0, 2, 1), "air"))
	holdSolve(t, "without zooms", l, 0, solveStuck(impl.ErrRange, 1))
	l.Zooms = []impl.Zoom{{Surf: 0, Gaps: wholes(m/2, m/2+1)}}
	holdSolve(t, "config 0", l, 0, impl.PlainLens{Surfs: []impl.PlainSurf{plain(frac(1, 1), frac(m/2, 1), frac(1, 1)), plain(frac(1, 1), frac(m, 1), frac(1, 1))}})
	holdSolve(t, "config 1", l, 1, solveStuck(impl.ErrRange, 1))
}

// fixed is the lens whose gaps are those of a zoom position.
func fixed(l impl.Lens, config int64) impl.Lens {
	return changedLens(l, func(l *impl.Lens) {
		for _, z := range l.Zooms {
			l.Surfs[z.Surf].Gap = valOf(z.Gaps[config])
		}
		l.Zooms = nil
	})
}

// Drawn lenses against the slow reckoning; each zoom position is a lens; each solved gap leads to the axis.
func TestSolveDrawnLenses(t *testing.T) {
	d := fracsFrom(82)
	seen, led := map[int64]int{}, 0
	for range 6000 {
		l := copyOfLens(drawnLens(d))
		for config := range impl.ConfigsOf(l) {
			want := solveByWords(l, config)
			seen[want.Code]++
			holdSolve(t, "drawn", l, config, want)
			holdSolve(t, "fixed", fixed(l, config), 0, want)
			if want.Code != impl.OK || l.Surfs[len(l.Surfs)-1].Gap.Kind != impl.ValSolve {
				continue
			}
			parts := impl.PartsOf(impl.SolveLens(l, config).Surfs)
			traced := impl.TracePlain(parts.List, rayOf(frac(1, 1), frac(0, 1)))
			if parts.Code == impl.OK && traced.Code == impl.OK {
				led++
				if y := traced.List[len(traced.List)-1].Y; y != frac(0, 1) {
					t.Errorf("SolveLens(%v, %d) leads light to the height %v", l, config, y)
				}
			}
		}
		holdSolve(t, "drawn", l, impl.ConfigsOf(l), solveStuck(impl.ErrNone, 0))
		holdSolve(t, "drawn", l, -1, solveStuck(impl.ErrNone, 0))
	}
	if seen[impl.OK] < 1000 || seen[impl.ErrRange] < 200 || seen[impl.ErrNone] < 200 || led < 500 {
		t.Error(seen, led)
	}
}

// holdParts asks for an answer, and for the same one again in memory of its own.
func holdParts(t *testing.T, what string, list []impl.PlainSurf, want impl.PartList) {
	t.Helper()
	kept := slices.Clone(list[:cap(list)])
	got, again := impl.PartsOf(list), impl.PartsOf(list)
	for _, answer := range []impl.PartList{got, again} {
		if answer.Code != want.Code || !slices.Equal(answer.List, want.List) {
			t.Errorf("%s: PartsOf(%s) = %s, want %s", what, brief(list), brief(answer), brief(want))
		}
	}
	if !slices.Equal(kept, list[:cap(list)]) {
		t.Errorf("%s: PartsOf changes its surfaces", what)
	}
	apart(t, [][]impl.Part{got.List}, [][]impl.Part{again.List})
}

func partsStuck(code int64) impl.PartList {
	return impl.PartList{Code: code}
}

func TestPartsOf(t *testing.T) {
	holdParts(t, "none", nil, impl.PartList{})
	holdParts(t, "none", []impl.PlainSurf{}, impl.PartList{})
	holdParts(t, "none", []impl.PlainSurf{{}, {}}[:0], impl.PartList{})
	holdParts(t, "one", []impl.PlainSurf{plain(frac(1, 50), frac(3, 1), frac(3, 2))}, impl.PartList{List: []impl.Part{powerOf(1, 100), gapOf(2, 1)}})
	holdParts(t, "one of air", []impl.PlainSurf{plain(frac(1, 50), frac(-3, 1), frac(1, 1))}, impl.PartList{List: []impl.Part{powerOf(0, 1), gapOf(-3, 1)}})
	three := []impl.PlainSurf{plain(frac(1, 50), frac(3, 1), frac(3, 2)), plain(frac(-1, 10), frac(4, 1), frac(8, 5)), plain(frac(-1, 6), frac(0, 1), frac(1, 1))}
	holdParts(t, "three", roomy(three, plain(frac(1, 1), frac(1, 1), frac(2, 1))), impl.PartList{List: []impl.Part{powerOf(1, 100), gapOf(2, 1), powerOf(-1, 100), gapOf(5, 2), powerOf(1, 10), gapOf(0, 1)}})
	// Semi, Conic and Stop are not asked.
	for _, f := range wrongFracs() {
		odd := slices.Clone(three)
		odd[0].Semi, odd[1].Conic, odd[0].Stop, odd[2].Stop = f, f, true, true
		holdParts(t, "odd", odd, partsByWords(three))
	}
}

func TestPartsOfMany(t *testing.T) {
	for _, count := range []int{39, 40} {
		list := slices.Repeat([]impl.PlainSurf{plain(frac(1, 2), frac(3, 1), frac(3, 2))}, count)
		holdParts(t, "many", list, partsByWords(list))
		if got := impl.PartsOf(list); got.Code != impl.OK || len(got.List) != 2*count {
			t.Errorf("%d surfaces: %v", count, got)
		}
	}
	for _, count := range []int{41, 42, 100000} {
		holdParts(t, "too many", slices.Repeat([]impl.PlainSurf{plain(frac(1, 2), frac(3, 1), frac(3, 2))}, count), partsStuck(impl.ErrMany))
		holdParts(t, "too many, and wrong", make([]impl.PlainSurf, count), partsStuck(impl.ErrMany))
	}
}

func TestPartsOfWrongSurfaces(t *testing.T) {
	right := plain(frac(1, 50), frac(3, 1), frac(3, 2))
	wrongs := []impl.PlainSurf{{}, plain(frac(1, 2), frac(1, 2), frac(0, 1)), plain(frac(1, 2), frac(1, 2), frac(-3, 2)), plain(frac(1, 2), frac(0, 1), frac(-1, impl.MaxNum))}
	for _, f := range wrongFracs() {
		wrongs = append(wrongs, plain(f, right.Gap, right.Index), plain(right.Curve, f, right.Index), plain(right.Curve, right.Gap, f), plain(f, f, f))
	}
	for _, wrong := range wrongs {
		for at := range 4 {
			list := slices.Repeat([]impl.PlainSurf{right}, 4)
			list[at] = wrong
			holdParts(t, "wrong", list, partsStuck(impl.ErrForm))
		}
	}
}

// beyondSurfs follow a surface of the index 3/2, and have a part that can't be reckoned.
func beyondSurfs() []impl.PlainSurf {
	const m = impl.MaxNum
	return []impl.PlainSurf{
		plain(frac(0, 1), frac(0, 1), frac(1, m-1)), plain(frac(0, 1), frac(0, 1), frac(m, m-1)), // the difference of the indices
		plain(frac(m, 1), frac(0, 1), frac(4, 1)), plain(frac(1, m), frac(0, 1), frac(2, 1)), plain(frac(-m, 1), frac(0, 1), frac(4, 1)), // the power
		plain(frac(0, 1), frac(m, 1), frac(1, 2)), plain(frac(0, 1), frac(-m, 1), frac(1, 2)), plain(frac(0, 1), frac(1, m), frac(2, 1)), // the gap
		plain(frac(m, 1), frac(1, m), frac(4, 1)), // both
	}
}

func TestPartsOfBeyondTheBounds(t *testing.T) {
	right := plain(frac(1, 50), frac(3, 1), frac(3, 2))
	wrong := plain(frac(1, 50), frac(2, 4), frac(3, 2))
	for _, beyond := range beyondSurfs() {
		for at := 1; at < 4; at++ {
			list := slices.Repeat([]impl.PlainSurf{right}, 4)
			list[at] = beyond
			holdParts(t, "beyond", list, partsStuck(impl.ErrRange))
			// The first surface's code is told, whichever it is.
			list[0] = wrong
			holdParts(t, "wrong ahead", list, partsStuck(impl.ErrForm))
			list[0] = right
			if at < 3 {
				list[3] = wrong
				holdParts(t, "wrong behind", list, partsStuck(impl.ErrRange))
				list[3] = impl.PlainSurf{}
				holdParts(t, "nothing behind", list, partsStuck(impl.ErrRange))
			}
		}
		// Of one surface, what is not right comes first.
		both := beyond
		both.Gap = frac(6, 4)
		holdParts(t, "both", []impl.PlainSurf{right, both}, partsStuck(impl.ErrForm))
		both = beyond
		both.Curve = frac(0, 2)
		holdParts(t, "both", []impl.PlainSurf{right, both}, partsStuck(impl.ErrForm))
	}
	// The first surface has air ahead of it.
	const m = impl.MaxNum
	holdParts(t, "the first", []impl.PlainSurf{plain(frac(2, 1), frac(0, 1), frac(m, 1))}, partsStuck(impl.ErrRange))
	holdParts(t, "the first", []impl.PlainSurf{plain(frac(1, 1), frac(0, 1), frac(m, 1))}, impl.PartList{List: []impl.Part{powerOf(m-1, 1), gapOf(0, 1)}})
	holdParts(t, "the first", []impl.PlainSurf{plain(frac(1, 1), frac(1, 1), frac(1, m))}, impl.PartList{List: []impl.Part{powerOf(1-m, m), gapOf(m, 1)}})
}

func drawnPlain(d *drawnFracs, count int64) []impl.PlainSurf {
	list := []impl.PlainSurf{}
	for range count {
		s := plain(d.frac(), d.frac(), frac(1+d.below(5), 1+d.below(3)))
		s.Index = toldOf(ratOf(s.Index)).Frac
		if f := d.frac(); f.Num > 0 && d.below(2) == 0 {
			s.Index = f
		}
		s.Semi, s.Conic, s.Stop = d.frac(), d.frac(), d.below(3) == 0
		list = append(list, s)
	}
	return list
}

func TestPartsOfDrawnSurfaces(t *testing.T) {
	d := fracsFrom(84)
	seen := map[int64]int{}
	for range 20000 {
		list := drawnPlain(d, d.below(4))
		if len(list) > 0 && d.below(8) == 0 {
			f := wrongFracs()[d.below(int64(len(wrongFracs())))]
			s := &list[d.below(int64(len(list)))]
			switch d.below(4) {
			case 0:
				s.Curve = f
			case 1:
				s.Gap = f
			case 2:
				s.Index = f
			case 3:
				s.Index = frac(-s.Index.Num, s.Index.Den)
			}
		}
		want := partsByWords(list)
		seen[want.Code]++
		holdParts(t, "drawn", list, want)
	}
	if seen[impl.OK] < 5000 || seen[impl.ErrForm] < 500 || seen[impl.ErrRange] < 500 {
		t.Error(seen)
	}
}

// holdFlip asks for an answer, and for the same one again, in memory of its own.
func holdFlip(t *testing.T, what string, list []impl.PlainSurf, want []impl.PlainSurf) {
	t.Helper()
	kept := slices.Clone(list[:cap(list)])
	got, again := impl.FlipLens(list), impl.FlipLens(list)
	if !slices.Equal(got, want) || !slices.Equal(again, want) {
		t.Errorf("%s: FlipLens(%s) = %s, want %s", what, brief(list), brief(got), brief(want))
	}
	if !slices.Equal(kept, list[:cap(list)]) {
		t.Errorf("%s: FlipLens changes its surfaces", what)
	}
	if len(list) < 100 {
		apart(t, [][]impl.PlainSurf{got}, [][]impl.PlainSurf{list, again})
	}
}

// flipByWords is what the document asks FlipLens for, each surface looked for by its place.
func flipByWords(list []impl.PlainSurf) []impl.PlainSurf {
	flipped := make([]impl.PlainSurf, len(list))
	for i, s := range list {
		gap, index := frac(0, 1), frac(1, 1)
		if i > 0 {
			gap, index = list[i-1].Gap, list[i-1].Index
		}
		turned := frac(int64(-uint64(s.Curve.Num)), s.Curve.Den)
		flipped[len(list)-1-i] = impl.PlainSurf{Curve: turned, Gap: gap, Index: index, Semi: s.Semi, Conic: s.Conic, Stop: s.Stop}
	}
	return flipped
}

func TestFlipLens(t *testing.T) {
	holdFlip(t, "none", nil, nil)
	holdFlip(t, "none", []impl.PlainSurf{}, nil)
	holdFlip(t, "none", []impl.PlainSurf{{}, {}}[:0], nil)
	a := impl.PlainSurf{Curve: frac(1, 50), Gap: frac(2, 1), Index: frac(3, 2), Semi: frac(10, 1), Conic: frac(-1, 2), Stop: true}
	b := impl.PlainSurf{Curve: frac(0, 1), Gap: frac(5, 1), Index: frac(8, 5), Semi: frac(9, 1), Conic: frac(1, 3)}
	c := impl.PlainSurf{Curve: frac(-1, 30), Gap: frac(7, 1), Index: frac(1, 1), Semi: frac(8, 1), Conic: frac(0, 1)}
	turned := func(s impl.PlainSurf, curve impl.Frac, gap impl.Frac, index impl.Frac) impl.PlainSurf {
		s.Curve, s.Gap, s.Index = curve, gap, index
		return s
	}
	holdFlip(t, "one", []impl.PlainSurf{a}, []impl.PlainSurf{turned(a, frac(-1, 50), frac(0, 1), frac(1, 1))})
	holdFlip(t, "two", []impl.PlainSurf{a, b}, []impl.PlainSurf{turned(b, frac(0, 1), a.Gap, a.Index), turned(a, frac(-1, 50), frac(0, 1), frac(1, 1))})
	holdFlip(t, "three", roomy([]impl.PlainSurf{a, b, c}, a), []impl.PlainSurf{turned(c, frac(1, 30), b.Gap, b.Index), turned(b, frac(0, 1), a.Gap, a.Index), turned(a, frac(-1, 50), frac(0, 1), frac(1, 1))})
	for _, count := range []int{40, 41, 100000} {
		list := []impl.PlainSurf{}
		for i := range count {
			list = append(list, plain(frac(int64(i), 1), frac(int64(i), 2), frac(int64(i), 3)))
		}
		holdFlip(t, strconv.Itoa(count), list, flipByWords(list))
	}
}

// Wrong numbers go through as they stand.
func TestFlipLensOfAnyNumbers(t *testing.T) {
	holdFlip(t, "the zero value", make([]impl.PlainSurf, 1), []impl.PlainSurf{{Gap: frac(0, 1), Index: frac(1, 1)}})
	holdFlip(t, "the zero value twice", make([]impl.PlainSurf, 2), []impl.PlainSurf{{}, {Gap: frac(0, 1), Index: frac(1, 1)}})
	least := frac(math.MinInt64, math.MinInt64)
	s := impl.PlainSurf{Curve: least, Gap: least, Index: least, Semi: least, Conic: least, Stop: true}
	last := s
	last.Gap, last.Index = frac(0, 1), frac(1, 1)
	holdFlip(t, "the least numbers", []impl.PlainSurf{s, s}, []impl.PlainSurf{s, last})
	list := []impl.PlainSurf{}
	for _, f := range wrongFracs() {
		list = append(list, impl.PlainSurf{Curve: f, Gap: f, Index: f, Semi: f, Conic: f})
		holdFlip(t, "wrong", list, flipByWords(list))
	}
	for _, num := range []int64{math.MaxInt64, -math.MaxInt64, 1, -1, 0} {
		holdFlip(t, "num", []impl.PlainSurf{plain(frac(num, 0), least, least)}, []impl.PlainSurf{plain(frac(-num, 0), frac(0, 1), frac(1, 1))})
	}
}

// A lens that ends in air, right behind its last surface, is itself when flipped twice; flipped once, its matrix is swapped.
func TestFlippedLensIsSeenFromBehind(t *testing.T) {
	d := fracsFrom(85)
	held := 0
	for range 6000 {
		list := drawnPlain(d, 1+d.below(4))
		holdFlip(t, "drawn", list, flipByWords(list))
		end := &list[len(list)-1]
		end.Gap, end.Index = frac(0, 1), frac(1, 1)
		if twice := impl.FlipLens(impl.FlipLens(list)); !slices.Equal(twice, list) {
			t.Errorf("%v flipped twice is %v", list, twice)
		}
		parts, back := impl.PartsOf(list), impl.PartsOf(impl.FlipLens(list))
		if parts.Code != back.Code {
			t.Errorf("%v: %d, from behind %d", list, parts.Code, back.Code)
		}
		a, b := impl.MatrixOf(parts.List), impl.MatrixOf(back.List)
		if parts.Code == impl.OK && a.Code == impl.OK && b.Code == impl.OK {
			held++
			if b.Matrix != impl.SwapMatrix(a.Matrix) {
				t.Errorf("%v has the matrix %v, from behind %v", list, a.Matrix, b.Matrix)
			}
		}
	}
	if held < 1000 {
		t.Errorf("only %d have a matrix from both sides", held)
	}
}

// What stood behind the last surface is not seen from behind: flipped twice a lens has lost it.
func TestFlippedTwiceTheLastGapIsGone(t *testing.T) {
	list := []impl.PlainSurf{plain(frac(1, 50), frac(2, 1), frac(3, 2)), plain(frac(-1, 50), frac(49, 1), frac(4, 3))}
	want := slices.Clone(list)
	want[1].Gap, want[1].Index = frac(0, 1), frac(1, 1)
	if got := impl.FlipLens(impl.FlipLens(list)); !slices.Equal(got, want) {
		t.Error(got)
	}
}
