package tests

import (
	"fmt"
	"math"
	"slices"
	"testing"

	"loop.example/g00049/impl"
)

func rulesCodeByWords(rules []impl.Rule) int64 {
	if len(rules) > 20 {
		return impl.ErrMany
	}
	for _, rule := range rules {
		if !isInside(rule.Width, 0, 1000) || !isInside(rule.Space, 0, 1000) {
			return impl.ErrRange
		}
	}
	return impl.OK
}

// gapByWords is of one way: from the end of the one to where the other begins.
func gapByWords(from int64, to int64, otherFrom int64, otherTo int64) int64 {
	switch {
	case to < otherFrom:
		return otherFrom - to
	case otherTo < from:
		return from - otherTo
	}
	return 0
}

// breaksByWords says of two rectangles whether each gap between them is below the space.
func breaksByWords(a impl.Rect, b impl.Rect, space int64) bool {
	right := gapByWords(a.X0, a.X1, b.X0, b.X1) < space
	above := gapByWords(a.Y0, a.Y1, b.Y0, b.Y1) < space
	return right && above
}

func isNarrowByWords(r impl.Rect, width int64) bool {
	return r.X1-r.X0 < width || r.Y1-r.Y0 < width
}

func flawsByWords(list []impl.Rect, rules []impl.Rule) impl.FlawResult {
	if code := rectsCodeByWords(list); code != impl.OK {
		return impl.FlawResult{Code: code}
	}
	if code := rulesCodeByWords(rules); code != impl.OK {
		return impl.FlawResult{Code: code}
	}
	told, nets := impl.FlawResult{}, netsByWords(list).List
	for i, rect := range list {
		at := slices.IndexFunc(rules, func(r impl.Rule) bool { return r.Layer == rect.Layer })
		if at < 0 {
			continue
		}
		if isNarrowByWords(rect, rules[at].Width) {
			told.Flaws = append(told.Flaws, flawOf(impl.FlawWidth, i, i))
		}
		for j := range list {
			if j > i && list[j].Layer == rect.Layer && nets[i] != nets[j] && breaksByWords(rect, list[j], rules[at].Space) {
				told.Flaws = append(told.Flaws, flawOf(impl.FlawSpace, i, j))
			}
		}
	}
	return told
}

func flawOf(kind int64, i int, j int) impl.Flaw {
	return impl.Flaw{Kind: kind, I: int64(i), J: int64(j)}
}

func flawsOf(flaws ...impl.Flaw) impl.FlawResult {
	return impl.FlawResult{Flaws: flaws}
}

func noFlaws(code int64) impl.FlawResult {
	return impl.FlawResult{Code: code}
}

func holdFlaws(t *testing.T, what string, list []impl.Rect, rules []impl.Rule, want impl.FlawResult) {
	t.Helper()
	ask := func(a layoutArgs) impl.FlawResult { return impl.FlawsOf(a.rects, a.rules) }
	holdCall(t, what+", FlawsOf", layoutArgs{rects: list, rules: rules}, ask, want)
	if told := flawsByWords(list, rules); fmt.Sprint(told) != fmt.Sprint(want) {
		t.Errorf("%s: the words tell %s of %s by %s, not %s", what, brief(told), brief(list), brief(rules), brief(want))
	}
}

func TestFlawsOfFaults(t *testing.T) {
	many, wrong := slices.Repeat([]impl.Rule{ruleOf(1, 1, 1)}, 21), []impl.Rule{ruleOf(1, -1, 0)}
	for _, faulty := range faultyLayouts() {
		for _, rules := range [][]impl.Rule{nil, many, wrong, {ruleOf(1, 1, 1)}} {
			holdFlaws(t, faulty.what, faulty.list, rules, noFlaws(faulty.code))
		}
	}
	manyWrong := append([]impl.Rule{ruleOf(1, 0, 1001)}, many...)
	box := []impl.Rect{rectOf(1, 0, 0, 1, 1)}
	for _, list := range [][]impl.Rect{nil, box} {
		holdFlaws(t, "20 rules", list, many[:20], flawsOf())
		holdFlaws(t, "21 rules", list, many, noFlaws(impl.ErrMany))
		holdFlaws(t, "22 rules, a wrong one", list, manyWrong, noFlaws(impl.ErrMany))
		holdFlaws(t, "20 rules, the first one wrong", list, manyWrong[:20], noFlaws(impl.ErrRange))
		holdFlaws(t, "20 rules, the last one wrong", list, slices.Concat(many[:19], wrong), noFlaws(impl.ErrRange))
		holdFlaws(t, "1000 rules", list, slices.Repeat(many[:1], 1000), noFlaws(impl.ErrMany))
	}
}

func TestFlawsOfRuleBounds(t *testing.T) {
	lone := []impl.Rect{rectOf(1, 0, 0, 2000, 2000)}
	for _, layer := range []int64{0, 1, 9, -1, 10, math.MinInt64, math.MaxInt64} {
		for _, number := range insideOf(0, 1000) {
			holdFlaws(t, "a width", lone, []impl.Rule{ruleOf(layer, number, 0)}, flawsOf())
			holdFlaws(t, "a space", lone, []impl.Rule{ruleOf(layer, 0, number)}, flawsOf())
		}
		for _, number := range outsideOf(0, 1000) {
			holdFlaws(t, "no width", lone, []impl.Rule{ruleOf(layer, number, 0)}, noFlaws(impl.ErrRange))
			holdFlaws(t, "no space", lone, []impl.Rule{ruleOf(layer, 0, number)}, noFlaws(impl.ErrRange))
			holdFlaws(t, "no space, behind another rule", nil, []impl.Rule{ruleOf(layer, 1, 1), ruleOf(layer, 0, number)}, noFlaws(impl.ErrRange))
		}
	}
}

func TestFlawsOfWidths(t *testing.T) {
	for _, width := range []int64{1, 2, 5, 999, 1000} {
		for _, side := range []int64{width - 1, width, width + 1} {
			for _, other := range []int64{width - 1, width, width + 1, 3000} {
				if side < 1 || other < 1 {
					continue
				}
				want := flawsOf()
				if min(side, other) < width {
					want = flawsOf(flawOf(impl.FlawWidth, 0, 0))
				}
				rules := []impl.Rule{ruleOf(4, width, 1000)}
				holdFlaws(t, "a width", []impl.Rect{rectOf(4, -7, 3, -7+side, 3+other)}, rules, want)
				holdFlaws(t, "a width without a rule", []impl.Rect{rectOf(5, -7, 3, -7+side, 3+other)}, rules, flawsOf())
			}
		}
	}
	holdFlaws(t, "no width asked for", []impl.Rect{rectOf(4, 0, 0, 1, 1)}, []impl.Rule{ruleOf(4, 0, 0)}, flawsOf())
}

func TestFlawsOfGaps(t *testing.T) {
	box := rectOf(6, 0, 0, 4, 4)
	for _, space := range []int64{0, 1, 2, 5, 1000} {
		for _, right := range []int64{-3, 0, 1, space - 1, space, space + 1} {
			for _, above := range []int64{-3, 0, 1, space - 1, space, space + 1} {
				if right < 0 && above <= 0 || right <= 0 && above < 0 {
					continue
				}
				want := flawsOf()
				if max(0, right) < space && max(0, above) < space {
					want = flawsOf(flawOf(impl.FlawSpace, 0, 1))
				}
				rules := []impl.Rule{ruleOf(6, 0, space)}
				for _, other := range []impl.Rect{
					rectOf(6, 4+right, 4+above, 9+right, 9+above),
					rectOf(6, -9-right, 4+above, -right, 9+above),
					rectOf(6, 4+right, -9-above, 9+right, -above),
					rectOf(6, -9-right, -9-above, -right, -above),
				} {
					what := fmt.Sprint("gaps of ", right, " and ", above)
					holdFlaws(t, what, []impl.Rect{box, other}, rules, want)
					holdFlaws(t, what+", without a rule", []impl.Rect{box, other}, []impl.Rule{ruleOf(7, 0, space)}, flawsOf())
				}
			}
		}
	}
}

func TestFlawsOfBoxesSideBySide(t *testing.T) {
	rules := []impl.Rule{ruleOf(3, 0, 3)}
	near := flawsOf(flawOf(impl.FlawSpace, 0, 1))
	wide := rectOf(3, -20, 0, 20, 1)
	holdFlaws(t, "one above a wide one", []impl.Rect{wide, rectOf(3, 3, 3, 5, 4)}, rules, near)
	holdFlaws(t, "one higher above it", []impl.Rect{wide, rectOf(3, 3, 4, 5, 5)}, rules, flawsOf())
	holdFlaws(t, "one below it", []impl.Rect{rectOf(3, 3, -4, 5, -2), wide}, rules, near)
	holdFlaws(t, "one right of its end", []impl.Rect{wide, rectOf(3, 22, -9, 25, 9)}, rules, near)
	holdFlaws(t, "one farther right", []impl.Rect{wide, rectOf(3, 23, -9, 25, 9)}, rules, flawsOf())
	holdFlaws(t, "one left of it that begins where it ends", []impl.Rect{wide, rectOf(3, -24, 1, -22, 5)}, rules, near)
	holdFlaws(t, "a corner on a corner", []impl.Rect{wide, rectOf(3, 20, 1, 22, 5)}, rules, near)
	holdFlaws(t, "a corner on a corner, no space asked for", []impl.Rect{wide, rectOf(3, 20, 1, 22, 5)}, []impl.Rule{ruleOf(3, 0, 0)}, flawsOf())
}

func TestFlawsOfOneNet(t *testing.T) {
	rules := []impl.Rule{ruleOf(0, 0, 9), ruleOf(1, 0, 9), ruleOf(3, 0, 9), ruleOf(2, 0, 9)}
	left, right, across := rectOf(1, 0, 0, 2, 2), rectOf(1, 5, 0, 7, 2), rectOf(1, 0, 2, 7, 3)
	holdFlaws(t, "two nets", []impl.Rect{left, right}, rules, flawsOf(flawOf(impl.FlawSpace, 0, 1)))
	holdFlaws(t, "joined by a third one", []impl.Rect{left, right, across}, rules, flawsOf())
	above, low, high := rectOf(2, 0, 0, 7, 2), rectOf(0, 0, 0, 1, 1), rectOf(0, 6, 0, 7, 1)
	holdFlaws(t, "joined through vias", []impl.Rect{left, right, above, low, high}, rules, flawsOf())
	holdFlaws(t, "one via", []impl.Rect{left, right, above, low}, rules, flawsOf(flawOf(impl.FlawSpace, 0, 1)))
	holdFlaws(t, "the same one", []impl.Rect{left, left}, rules, flawsOf())
	holdFlaws(t, "unlike layers", []impl.Rect{left, rectOf(3, 5, 0, 7, 2), rectOf(2, 2, 0, 4, 2)}, rules, flawsOf())
	holdFlaws(t, "unlike layers that touch", []impl.Rect{left, rectOf(3, 2, 0, 4, 2), rectOf(0, 2, 0, 4, 2)}, rules, flawsOf())
	holdFlaws(t, "two vias of two nets", []impl.Rect{low, high}, rules, flawsOf(flawOf(impl.FlawSpace, 0, 1)))
}

func TestFlawsByTheFirstRule(t *testing.T) {
	list := []impl.Rect{rectOf(1, 0, 0, 2, 2), rectOf(2, 0, 0, 2, 2), rectOf(1, 4, 0, 9, 9)}
	narrow, near := flawOf(impl.FlawWidth, 0, 0), flawOf(impl.FlawSpace, 0, 2)
	strict, easy, other := ruleOf(1, 3, 3), ruleOf(1, 1, 1), ruleOf(2, 3, 3)
	holdFlaws(t, "the first one is strict", list, []impl.Rule{strict, easy}, flawsOf(narrow, near))
	holdFlaws(t, "the first one is not", list, []impl.Rule{easy, strict}, flawsOf())
	holdFlaws(t, "another layer's ahead", list, []impl.Rule{other, strict}, flawsOf(narrow, near, flawOf(impl.FlawWidth, 1, 1)))
	holdFlaws(t, "no rule", list, nil, flawsOf())
	holdFlaws(t, "another layer's alone", list, []impl.Rule{other}, flawsOf(flawOf(impl.FlawWidth, 1, 1)))
	strange := []impl.Rule{ruleOf(-1, 1000, 1000), ruleOf(10, 1000, 1000), ruleOf(math.MaxInt64, 1000, 1000), easy}
	holdFlaws(t, "rules of layers that are none", list, strange, flawsOf())
	holdFlaws(t, "the twentieth one", list, append(slices.Repeat([]impl.Rule{ruleOf(8, 9, 9)}, 19), strict), flawsOf(narrow, near))
}

func TestFlawsInOrder(t *testing.T) {
	list := []impl.Rect{rectOf(1, 0, 0, 1, 1), rectOf(1, 2, 0, 3, 1), rectOf(2, 0, 0, 1, 9), rectOf(1, 4, 0, 9, 9), rectOf(2, 2, 0, 9, 9)}
	rules := []impl.Rule{ruleOf(1, 2, 4), ruleOf(2, 2, 4)}
	space, width := int64(impl.FlawSpace), int64(impl.FlawWidth)
	holdFlaws(t, "two layers", list, rules, flawsOf(flawOf(width, 0, 0), flawOf(space, 0, 1), flawOf(space, 0, 3), flawOf(width, 1, 1), flawOf(space, 1, 3), flawOf(width, 2, 2), flawOf(space, 2, 4)))
	all, lone := []impl.Flaw{}, apartRects(1, impl.MaxRects)
	for i := range lone {
		all = append(all, flawOf(width, i, i))
		for j := i + 1; j < len(lone); j++ {
			all = append(all, flawOf(space, i, j))
		}
	}
	holdFlaws(t, "as many as there can be", lone, []impl.Rule{ruleOf(1, 1000, 1000)}, flawsOf(all...))
	holdFlaws(t, "far away", []impl.Rect{rectOf(1, -10000, -10000, 0, 0), rectOf(1, 999, 999, 10000, 10000), rectOf(1, 1, 10000-1, 2, 10000)}, []impl.Rule{ruleOf(1, 1, 1000)}, flawsOf(flawOf(space, 0, 1), flawOf(space, 1, 2)))
}

// drawnRules are of some of the layers, of some more than once, of some that are none.
func drawnRules(draw *numbers) []impl.Rule {
	rules := []impl.Rule{}
	for range draw.below(8) {
		rules = append(rules, ruleOf(draw.below(7)-1, draw.below(8), draw.below(8)))
	}
	return rules
}

func TestFlawsDrawn(t *testing.T) {
	draw := &numbers{state: 238}
	for _, list := range drawnLayouts(239, 150) {
		rules := drawnRules(draw)
		holdFlaws(t, "drawn", list, rules, flawsByWords(list, rules))
	}
	for range 1000 {
		list, rules := drawnRects(draw, draw.below(7), 3, 9, 5), drawnRules(draw)
		if draw.below(5) == 0 {
			rules = append(rules, ruleOf(draw.below(3), draw.below(1500)-200, draw.below(1500)-200))
		}
		holdFlaws(t, "drawn, few", list, rules, flawsByWords(list, rules))
	}
}
