package tests

import (
	"fmt"
	"math"
	"slices"
	"testing"

	"loop.example/g00049/impl"
)

// layoutArgs are what a call is given of rectangles, of rules, of pins and of two lists of joints.
type layoutArgs struct {
	rects []impl.Rect
	rules []impl.Rule
	pins  []impl.Pin
	a     []int64
	b     []int64
}

func (a layoutArgs) withRoom() layoutArgs {
	a.rects = roomy(a.rects, rectOf(1, -3, -3, 3, 3))
	a.rules = roomy(a.rules, ruleOf(1, 7, 7))
	a.pins = roomy(a.pins, pinOf(1, 2, 2))
	a.a, a.b = roomy(a.a, 5), roomy(a.b, 6)
	return a
}

func (a layoutArgs) picture() string {
	return fmt.Sprint(a.rects[:cap(a.rects)], a.rules[:cap(a.rules)], a.pins[:cap(a.pins)], a.a[:cap(a.a)], a.b[:cap(a.b)])
}

func rectOf(layer int64, x0 int64, y0 int64, x1 int64, y1 int64) impl.Rect {
	return impl.Rect{Layer: layer, X0: x0, Y0: y0, X1: x1, Y1: y1}
}

func ruleOf(layer int64, width int64, space int64) impl.Rule {
	return impl.Rule{Layer: layer, Width: width, Space: space}
}

func pinOf(layer int64, x int64, y int64) impl.Pin {
	return impl.Pin{Layer: layer, X: x, Y: y}
}

// apartRects are so many that have nothing in common, each 2 by 2, on lines of ten, 5 from one to the next.
func apartRects(layer int64, count int64) []impl.Rect {
	list := []impl.Rect{}
	for i := range count {
		x, y := i%10*7, i/10*7
		list = append(list, rectOf(layer, x, y, x+2, y+2))
	}
	return list
}

// drawnRects lie within so much of nought either way and are at most so long.
func drawnRects(draw *numbers, count int64, layers int64, spread int64, most int64) []impl.Rect {
	list := []impl.Rect{}
	for range count {
		x, y := draw.below(2*spread+1)-spread, draw.below(2*spread+1)-spread
		list = append(list, rectOf(draw.below(layers), x, y, x+1+draw.below(most), y+1+draw.below(most)))
	}
	return list
}

// drawnLayouts are some of few and of many rectangles, close together and far apart, on few and on many layers.
func drawnLayouts(seed uint64, times int) [][]impl.Rect {
	draw := &numbers{state: seed}
	layouts := [][]impl.Rect{}
	for range times {
		count, layers, spread := draw.below(impl.MaxRects), 1+draw.below(5), 2+draw.below(30)
		layouts = append(layouts, drawnRects(draw, count, layers, spread, 1+draw.below(9)))
	}
	return layouts
}

// rectCodeByWords is of one rectangle alone.
func rectCodeByWords(r impl.Rect) int64 {
	switch {
	case !isInside(r.Layer, 0, 9), !(r.X0 < r.X1), !(r.Y0 < r.Y1):
		return impl.ErrForm
	case r.X0 < -10000, r.Y0 < -10000, r.X1 > 10000, r.Y1 > 10000:
		return impl.ErrRange
	}
	return impl.OK
}

func rectsCodeByWords(list []impl.Rect) int64 {
	if len(list) > 60 {
		return impl.ErrMany
	}
	for _, rect := range list {
		if code := rectCodeByWords(rect); code != impl.OK {
			return code
		}
	}
	return impl.OK
}

func holdRectsFault(t *testing.T, what string, list []impl.Rect, want int64) {
	t.Helper()
	holdCall(t, what+", RectsFault", layoutArgs{rects: list}, func(a layoutArgs) int64 { return impl.RectsFault(a.rects) }, want)
	if told := rectsCodeByWords(list); told != want {
		t.Errorf("%s: the words tell %d of %s, not %d", what, told, brief(list), want)
	}
}

// faultyLayout is a list with what is told of it.
type faultyLayout struct {
	what string
	list []impl.Rect
	code int64
}

// faultyLayouts have each fault once, and some two of them.
func faultyLayouts() []faultyLayout {
	noLayer, noForm := rectOf(10, 0, 0, 1, 1), rectOf(1, 0, 5, 1, 5)
	far, right := rectOf(1, 9999, 0, 10001, 1), rectOf(1, 0, 0, 4, 1)
	many := apartRects(1, impl.MaxRects+1)
	return []faultyLayout{
		{"one too many", many, impl.ErrMany},
		{"one too many of no form", slices.Insert(slices.Clone(many[1:]), 0, noForm), impl.ErrMany},
		{"one too many far away", slices.Insert(slices.Clone(many[1:]), 0, far), impl.ErrMany},
		{"many too many", apartRects(2, 1000), impl.ErrMany},
		{"no layer", []impl.Rect{right, noLayer}, impl.ErrForm},
		{"no height", []impl.Rect{noForm, right}, impl.ErrForm},
		{"far away", []impl.Rect{right, right, far}, impl.ErrRange},
		{"far away, then no form", []impl.Rect{far, noForm}, impl.ErrRange},
		{"no form, then far away", []impl.Rect{noForm, far}, impl.ErrForm},
		{"far away and no layer", []impl.Rect{right, rectOf(-1, 9999, 0, 10001, 1)}, impl.ErrForm},
		{"far away and no height", []impl.Rect{rectOf(1, -10001, 3, 0, 3)}, impl.ErrForm},
		{"far away and no width", []impl.Rect{rectOf(1, 3, -10001, 3, 0)}, impl.ErrForm},
		{"the last one", append(apartRects(0, impl.MaxRects-1), far), impl.ErrRange},
	}
}

func TestLayoutConstants(t *testing.T) {
	if impl.MaxRects != 60 || impl.MaxPlace != 10000 || impl.FlawWidth != 1 || impl.FlawSpace != 2 {
		t.Error("a constant is another one")
	}
}

func TestRectsFaultOfLists(t *testing.T) {
	holdRectsFault(t, "nil", nil, impl.OK)
	holdRectsFault(t, "none", []impl.Rect{}, impl.OK)
	holdRectsFault(t, "one", []impl.Rect{rectOf(0, 0, 0, 1, 1)}, impl.OK)
	holdRectsFault(t, "as many as may be", apartRects(3, impl.MaxRects), impl.OK)
	for _, faulty := range faultyLayouts() {
		holdRectsFault(t, faulty.what, faulty.list, faulty.code)
	}
}

func TestRectsFaultOfLayers(t *testing.T) {
	for _, layer := range insideOf(0, 9) {
		holdRectsFault(t, "a layer", []impl.Rect{rectOf(layer, 0, 0, 1, 1)}, impl.OK)
	}
	for _, layer := range outsideOf(0, 9) {
		holdRectsFault(t, "no layer", []impl.Rect{rectOf(layer, 0, 0, 1, 1)}, impl.ErrForm)
	}
}

// edgePlaces are those about the bounds and about nought, and the least and the greatest.
func edgePlaces() []int64 {
	return []int64{math.MinInt64, math.MinInt64 + 1, -1 << 32, -10002, -10001, -10000, -9999, -1, 0, 1, 9999, 10000, 10001, 10002, 1 << 32, math.MaxInt64 - 1, math.MaxInt64}
}

func TestRectsFaultOfPlaces(t *testing.T) {
	for _, from := range edgePlaces() {
		for _, to := range edgePlaces() {
			want := int64(impl.OK)
			if from >= to {
				want = impl.ErrForm
			} else if from < -10000 || to > 10000 {
				want = impl.ErrRange
			}
			wide, high := rectOf(4, from, 0, to, 1), rectOf(4, 0, from, 1, to)
			holdRectsFault(t, "from left to right", []impl.Rect{wide}, want)
			holdRectsFault(t, "from below to above", []impl.Rect{high}, want)
			holdRectsFault(t, "behind a right one", []impl.Rect{rectOf(9, -10000, -10000, 10000, 10000), wide}, want)
			holdRectsFault(t, "ahead of a right one", []impl.Rect{high, rectOf(9, -10000, -10000, 10000, 10000)}, want)
		}
	}
}

func TestRectsFaultDrawn(t *testing.T) {
	draw, places := &numbers{state: 231}, edgePlaces()
	place := func() int64 { return places[draw.below(int64(len(places)))] }
	for range 3000 {
		list := []impl.Rect{}
		for range draw.below(4) {
			rect := rectOf(draw.below(12)-1, -draw.below(10), -draw.below(10), 1+draw.below(10), 1+draw.below(10))
			switch draw.below(9) {
			case 0:
				rect.X0 = place()
			case 1:
				rect.Y0 = place()
			case 2:
				rect.X1 = place()
			case 3:
				rect.Y1 = place()
			}
			list = append(list, rect)
		}
		holdRectsFault(t, "drawn", list, rectsCodeByWords(list))
	}
}
