package tests

import (
	"fmt"
	"math"
	"math/big"
	"slices"
	"testing"

	"loop.example/g00049/impl"
)

// wrappedSumByWords is what is left of the sum modulo 2^64, as an int64 is.
func wrappedSumByWords(a int64, b int64) int64 {
	whole := new(big.Int).Lsh(big.NewInt(1), 64)
	half := new(big.Int).Lsh(big.NewInt(1), 63)
	sum := new(big.Int).Add(big.NewInt(a), big.NewInt(b))
	sum.Add(sum, half).Mod(sum, whole).Sub(sum, half)
	return sum.Int64()
}

func movedRectsByWords(list []impl.Rect, x int64, y int64) []impl.Rect {
	moved := []impl.Rect{}
	for _, r := range list {
		moved = append(moved, rectOf(r.Layer, wrappedSumByWords(r.X0, x), wrappedSumByWords(r.Y0, y), wrappedSumByWords(r.X1, x), wrappedSumByWords(r.Y1, y)))
	}
	return moved
}

func holdMovedRects(t *testing.T, what string, list []impl.Rect, x int64, y int64, want ...impl.Rect) {
	t.Helper()
	ask := func(a layoutArgs) []impl.Rect { return impl.MoveRects(a.rects, x, y) }
	holdCall(t, fmt.Sprint(what, ", MoveRects by ", x, " and ", y), layoutArgs{rects: list}, ask, want)
	if told := movedRectsByWords(list, x, y); fmt.Sprint(told) != fmt.Sprint(want) {
		t.Errorf("%s: the words tell %s of %s by %d and %d, not %s", what, brief(told), brief(list), x, y, brief(want))
	}
}

func transposedRectsByWords(list []impl.Rect) []impl.Rect {
	turned := []impl.Rect{}
	for _, r := range list {
		turned = append(turned, rectOf(r.Layer, r.Y0, r.X0, r.Y1, r.X1))
	}
	return turned
}

func holdTransposedRects(t *testing.T, what string, list []impl.Rect, want ...impl.Rect) {
	t.Helper()
	ask := func(a layoutArgs) []impl.Rect { return impl.TransposeRects(a.rects) }
	holdCall(t, what+", TransposeRects", layoutArgs{rects: list}, ask, want)
	twice := func(a layoutArgs) []impl.Rect { return impl.TransposeRects(impl.TransposeRects(a.rects)) }
	holdCall(t, what+", TransposeRects twice", layoutArgs{rects: list}, twice, list)
	if told := transposedRectsByWords(list); fmt.Sprint(told) != fmt.Sprint(want) {
		t.Errorf("%s: the words tell %s of %s, not %s", what, brief(told), brief(list), brief(want))
	}
}

// cutRectByWords goes through the list and tells the rectangle of that place twice, if x lies within.
func cutRectByWords(list []impl.Rect, at int64, x int64) []impl.Rect {
	cut := []impl.Rect{}
	for i, r := range list {
		if int64(i) == at && r.X0 < x && x < r.X1 {
			cut = append(cut, rectOf(r.Layer, r.X0, r.Y0, x, r.Y1), rectOf(r.Layer, x, r.Y0, r.X1, r.Y1))
		} else {
			cut = append(cut, r)
		}
	}
	return cut
}

func holdCutRect(t *testing.T, what string, list []impl.Rect, at int64, x int64, want ...impl.Rect) {
	t.Helper()
	ask := func(a layoutArgs) []impl.Rect { return impl.CutRect(a.rects, at, x) }
	holdCall(t, fmt.Sprint(what, ", CutRect ", at, " at ", x), layoutArgs{rects: list}, ask, want)
	if told := cutRectByWords(list, at, x); fmt.Sprint(told) != fmt.Sprint(want) {
		t.Errorf("%s: the words tell %s of %s, %d at %d, not %s", what, brief(told), brief(list), at, x, brief(want))
	}
}

// strangeLayouts are not right, or there are too many of them.
func strangeLayouts() [][]impl.Rect {
	lists := [][]impl.Rect{
		{rectOf(-1, 5, 5, 1, 1), rectOf(10, 0, 0, 0, 0)},
		{rectOf(math.MaxInt64, math.MinInt64, math.MinInt64, math.MaxInt64, math.MaxInt64), rectOf(math.MinInt64, math.MaxInt64, math.MaxInt64, math.MinInt64, math.MinInt64)},
		{rectOf(1, -20000, -30000, 40000, 50000)},
		{rectOf(1, 0, 9, 8, 1), rectOf(3, 8, 1, 0, 9)},
	}
	for _, faulty := range faultyLayouts() {
		lists = append(lists, faulty.list)
	}
	return lists
}

func TestMovedTold(t *testing.T) {
	list := []impl.Rect{rectOf(1, 0, 1, 2, 3), rectOf(9, -5, -6, 7, 8)}
	holdMovedRects(t, "nil", nil, 3, 4)
	holdMovedRects(t, "none", []impl.Rect{}, 3, 4)
	holdMovedRects(t, "not at all", list, 0, 0, list...)
	holdMovedRects(t, "right and above", list, 10, 200, rectOf(1, 10, 201, 12, 203), rectOf(9, 5, 194, 17, 208))
	holdMovedRects(t, "right", list, 1, 0, rectOf(1, 1, 1, 3, 3), rectOf(9, -4, -6, 8, 8))
	holdMovedRects(t, "below", list, 0, -1, rectOf(1, 0, 0, 2, 2), rectOf(9, -5, -7, 7, 7))
	holdMovedRects(t, "left and above", list, -7, 7, rectOf(1, -7, 8, -5, 10), rectOf(9, -12, 1, 0, 15))
	holdMovedRects(t, "round about", []impl.Rect{rectOf(1, 0, -1, 1, 0)}, math.MaxInt64, math.MinInt64, rectOf(1, math.MaxInt64, math.MaxInt64, math.MinInt64, math.MinInt64))
}

func TestMovedByAnything(t *testing.T) {
	lists := append(strangeLayouts(), nil, apartRects(2, impl.MaxRects), []impl.Rect{rectOf(1, 0, 1, 2, 3)})
	numbers := []int64{math.MinInt64, math.MinInt64 + 1, -10000, -1, 0, 1, 20000, math.MaxInt64 - 1, math.MaxInt64}
	for _, list := range lists {
		for _, x := range numbers {
			for _, y := range numbers {
				holdMovedRects(t, "by anything", list, x, y, movedRectsByWords(list, x, y)...)
			}
		}
	}
}

func TestMovedDrawn(t *testing.T) {
	draw := &numbers{state: 240}
	for range 500 {
		list, x, y := []impl.Rect{}, draw.next(), draw.next()
		for range draw.below(5) {
			list = append(list, rectOf(draw.next(), draw.next(), draw.next(), draw.next(), draw.next()))
		}
		holdMovedRects(t, "drawn", list, x, y, movedRectsByWords(list, x, y)...)
		holdTransposedRects(t, "drawn", list, transposedRectsByWords(list)...)
		back := impl.MoveRects(impl.MoveRects(list, x, y), -x, -y)
		if !slices.Equal(back, list) {
			t.Errorf("%s moved by %d, %d and back is %s", brief(list), x, y, brief(back))
		}
	}
}

func TestTransposedTold(t *testing.T) {
	holdTransposedRects(t, "nil", nil)
	holdTransposedRects(t, "none", []impl.Rect{})
	holdTransposedRects(t, "two", []impl.Rect{rectOf(1, 2, 3, 4, 5), rectOf(0, -1, -2, 0, 9)}, rectOf(1, 3, 2, 5, 4), rectOf(0, -2, -1, 9, 0))
	for _, list := range strangeLayouts() {
		holdTransposedRects(t, "not right", list, transposedRectsByWords(list)...)
	}
	holdTransposedRects(t, "as many as may be", apartRects(2, impl.MaxRects), transposedRectsByWords(apartRects(2, impl.MaxRects))...)
}

func TestCutTold(t *testing.T) {
	a, b, c := rectOf(1, 0, 1, 5, 3), rectOf(9, -5, -6, 7, 8), rectOf(2, 0, 0, 1, 9)
	list := []impl.Rect{a, b, c}
	holdCutRect(t, "the first one", list, 0, 2, rectOf(1, 0, 1, 2, 3), rectOf(1, 2, 1, 5, 3), b, c)
	holdCutRect(t, "one more than where it begins", list, 0, 1, rectOf(1, 0, 1, 1, 3), rectOf(1, 1, 1, 5, 3), b, c)
	holdCutRect(t, "one below its end", list, 0, 4, rectOf(1, 0, 1, 4, 3), rectOf(1, 4, 1, 5, 3), b, c)
	holdCutRect(t, "the second one", list, 1, 0, a, rectOf(9, -5, -6, 0, 8), rectOf(9, 0, -6, 7, 8), c)
	for _, x := range []int64{math.MinInt64, -1, 0, 5, 6, math.MaxInt64} {
		holdCutRect(t, "outside of the first one", list, 0, x, list...)
	}
	for _, x := range []int64{math.MinInt64, -6, -5, 7, 8, math.MaxInt64} {
		holdCutRect(t, "outside of the second one", list, 1, x, list...)
	}
	for _, x := range []int64{-1, 0, 1, 2} {
		holdCutRect(t, "the third one can't be", list, 2, x, list...)
	}
	holdCutRect(t, "the last one", []impl.Rect{a, b}, 1, 6, a, rectOf(9, -5, -6, 6, 8), rectOf(9, 6, -6, 7, 8))
	for _, at := range []int64{-1, -2, 3, 4, 1 << 32, 1<<32 + 1, math.MinInt64, math.MinInt64 + 1, math.MaxInt64} {
		holdCutRect(t, "no place", list, at, 2, list...)
		holdCutRect(t, "nil", nil, at, 2)
	}
	holdCutRect(t, "nil", nil, 0, 0)
	holdCutRect(t, "none", []impl.Rect{}, 0, 0)
}

func TestCutOfAnything(t *testing.T) {
	lists := append(strangeLayouts(), apartRects(2, impl.MaxRects))
	for _, list := range lists {
		for _, at := range []int64{-1, 0, 1, 2, int64(len(list)) - 1, int64(len(list)), math.MaxInt64} {
			for _, x := range []int64{math.MinInt64, math.MinInt64 + 1, -10000, -1, 0, 1, 4, 10000, math.MaxInt64 - 1, math.MaxInt64} {
				holdCutRect(t, "anything", list, at, x, cutRectByWords(list, at, x)...)
			}
		}
	}
}

// layoutNumbers are all that promise 25 says of a layout; the pins go with it.
func layoutNumbers(list []impl.Rect, pins []impl.Pin) string {
	areas := []impl.MeritInt{}
	for layer := range int64(10) {
		areas = append(areas, impl.AreaOf(list, layer))
	}
	return fmt.Sprint(areas, impl.PinNets(list, pins))
}

func drawnPins(draw *numbers, list []impl.Rect, count int64) []impl.Pin {
	pins := []impl.Pin{}
	for range count {
		pin := pinOf(draw.below(5), draw.below(81)-40, draw.below(81)-40)
		if len(list) > 0 && draw.below(3) > 0 {
			rect := list[draw.below(int64(len(list)))]
			pin = pinOf(rect.Layer, rect.X0+draw.below(rect.X1-rect.X0+1), rect.Y0+draw.below(rect.Y1-rect.Y0+1))
		}
		pins = append(pins, pin)
	}
	return pins
}

func movedPins(pins []impl.Pin, x int64, y int64) []impl.Pin {
	moved := []impl.Pin{}
	for _, pin := range pins {
		moved = append(moved, pinOf(pin.Layer, pin.X+x, pin.Y+y))
	}
	return moved
}

func transposedPins(pins []impl.Pin) []impl.Pin {
	turned := []impl.Pin{}
	for _, pin := range pins {
		turned = append(turned, pinOf(pin.Layer, pin.Y, pin.X))
	}
	return turned
}

// TestLayoutsHangNotOnTheirPlace moves them about as far as they may be, and turns them.
func TestLayoutsHangNotOnTheirPlace(t *testing.T) {
	draw := &numbers{state: 241}
	for _, list := range drawnLayouts(242, 150) {
		pins, rules := drawnPins(draw, list, 30), drawnRules(draw)
		x, y := draw.below(19901)-9950, draw.below(19901)-9950
		told := layoutNumbers(list, pins) + fmt.Sprint(impl.NetsOf(list), impl.FlawsOf(list, rules))
		moved, turned := impl.MoveRects(list, x, y), impl.TransposeRects(list)
		if got := layoutNumbers(moved, movedPins(pins, x, y)) + fmt.Sprint(impl.NetsOf(moved), impl.FlawsOf(moved, rules)); got != told {
			t.Errorf("moved by %d, %d %s tells %s, not %s", x, y, brief(list), got, told)
		}
		if got := layoutNumbers(turned, transposedPins(pins)) + fmt.Sprint(impl.NetsOf(turned), impl.FlawsOf(turned, rules)); got != told {
			t.Errorf("transposed %s tells %s, not %s", brief(list), got, told)
		}
		if impl.NetsOf(list).Code != impl.OK {
			t.Errorf("%s has a fault", brief(list))
		}
	}
}

// TestLayoutsHangNotOnCuts cuts again and again, as long as there is room for one more.
func TestLayoutsHangNotOnCuts(t *testing.T) {
	draw := &numbers{state: 243}
	for _, list := range drawnLayouts(244, 100) {
		pins := drawnPins(draw, list, 30)
		told, nets := layoutNumbers(list, pins), impl.NetsOf(list).List
		for range 20 {
			if len(list) == 0 || len(list) == impl.MaxRects {
				break
			}
			at := draw.below(int64(len(list)))
			x := list[at].X0 + draw.below(list[at].X1-list[at].X0+1)
			cut := impl.CutRect(list, at, x)
			if len(cut) > len(list) {
				nets = slices.Insert(nets, int(at), nets[at])
			}
			if got := layoutNumbers(cut, pins); got != told {
				t.Errorf("%d of %s cut at %d tells %s, not %s", at, brief(list), x, got, told)
			}
			if got := impl.NetsOf(cut); fmt.Sprint(got) != fmt.Sprint(netsOf(nets...)) {
				t.Errorf("%d of %s cut at %d has the nets %s, not %v", at, brief(list), x, brief(got), nets)
			}
			list = cut
		}
	}
}

func TestCutsLeaveWhatIsJoined(t *testing.T) {
	list := []impl.Rect{rectOf(1, 0, 0, 8, 2), rectOf(1, 3, 2, 5, 4), rectOf(1, 8, 2, 9, 3), rectOf(0, 3, 1, 5, 3)}
	holdNets(t, "ahead of the cut", list, netsOf(0, 0, 1, 0))
	for x := int64(1); x < 8; x++ {
		holdNets(t, "cut", impl.CutRect(list, 0, x), netsOf(0, 0, 0, 1, 0))
	}
	full := append(apartRects(3, impl.MaxRects-1), rectOf(3, 0, 50, 2, 51))
	holdNets(t, "one too many by a cut", impl.CutRect(full, impl.MaxRects-1, 1), impl.WaveResult{Code: impl.ErrMany})
}
