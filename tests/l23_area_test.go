package tests

import (
	"fmt"
	"math"
	"slices"
	"testing"

	"loop.example/g00049/impl"
)

// columnByWords counts the squares of side 1 in the column that begins at x, marking each one that is covered.
func columnByWords(list []impl.Rect) int64 {
	marks, count := map[int64]int64{}, int64(0)
	for _, rect := range list {
		for y := rect.Y0; y < rect.Y1; y++ {
			if marks[y] == 0 {
				marks[y] = 1
				count++
			}
		}
	}
	return count
}

// areaByWords counts column by column; a column under the same rectangles as the one ahead of it is not counted again.
func areaByWords(list []impl.Rect, layer int64) impl.MeritInt {
	if code := rectsCodeByWords(list); code != impl.OK {
		return impl.MeritInt{Code: code}
	}
	told, last, count := impl.MeritInt{}, []impl.Rect{}, int64(0)
	for x := int64(-10000); x < 10000; x++ {
		column := []impl.Rect{}
		for _, rect := range list {
			if rect.Layer == layer && rect.X0 <= x && rect.X1 >= x+1 {
				column = append(column, rect)
			}
		}
		if !slices.Equal(column, last) {
			last, count = column, columnByWords(column)
		}
		told.Merit += count
	}
	return told
}

// drawnArea counts each square by itself; of lists near nought alone.
func drawnArea(list []impl.Rect, layer int64) int64 {
	count := int64(0)
	for x := int64(-60); x < 60; x++ {
		for y := int64(-60); y < 60; y++ {
			square := rectOf(layer, x, y, x+1, y+1)
			if slices.ContainsFunc(list, func(r impl.Rect) bool { return r.Layer == layer && squaresInCommon(r, square) }) {
				count++
			}
		}
	}
	return count
}

func askArea(list []impl.Rect, layer int64, t *testing.T, what string, want impl.MeritInt) {
	t.Helper()
	ask := func(a layoutArgs) impl.MeritInt { return impl.AreaOf(a.rects, layer) }
	holdCall(t, fmt.Sprint(what, ", AreaOf ", layer), layoutArgs{rects: list}, ask, want)
}

func holdArea(t *testing.T, what string, list []impl.Rect, layer int64, want int64) {
	t.Helper()
	askArea(list, layer, t, what, impl.MeritInt{Merit: want})
	if told := areaByWords(list, layer); told != (impl.MeritInt{Merit: want}) {
		t.Errorf("%s: the words tell %v of %s, layer %d, not %d", what, told, brief(list), layer, want)
	}
}

func TestAreaOfFaults(t *testing.T) {
	for _, faulty := range faultyLayouts() {
		for _, layer := range []int64{0, 1, -1, 10, math.MinInt64} {
			askArea(faulty.list, layer, t, faulty.what, impl.MeritInt{Code: faulty.code})
			if told := areaByWords(faulty.list, layer); told.Code != faulty.code {
				t.Errorf("%s: the words tell %d", faulty.what, told.Code)
			}
		}
	}
}

func TestAreaTold(t *testing.T) {
	holdArea(t, "nil", nil, 0, 0)
	holdArea(t, "none", []impl.Rect{}, 1, 0)
	box := rectOf(3, 0, 0, 4, 3)
	holdArea(t, "one", []impl.Rect{box}, 3, 12)
	holdArea(t, "the same one twice", []impl.Rect{box, box}, 3, 12)
	holdArea(t, "one within", []impl.Rect{box, rectOf(3, 1, 1, 2, 2)}, 3, 12)
	holdArea(t, "one about", []impl.Rect{rectOf(3, 1, 1, 2, 2), box, rectOf(3, 0, 0, 4, 1)}, 3, 12)
	holdArea(t, "a corner in common", []impl.Rect{box, rectOf(3, 3, 2, 7, 5)}, 3, 12+12-1)
	holdArea(t, "a touched edge", []impl.Rect{box, rectOf(3, 4, 0, 5, 3)}, 3, 15)
	holdArea(t, "a touched edge above", []impl.Rect{rectOf(3, 0, 3, 4, 4), box}, 3, 16)
	holdArea(t, "a touched corner", []impl.Rect{box, rectOf(3, 4, 3, 5, 4)}, 3, 13)
	holdArea(t, "a gap", []impl.Rect{box, rectOf(3, 5, 0, 6, 3)}, 3, 15)
	holdArea(t, "a gap above", []impl.Rect{box, rectOf(3, 0, 4, 4, 5)}, 3, 16)
	holdArea(t, "a cross", []impl.Rect{rectOf(3, -5, 0, 5, 1), rectOf(3, 0, -5, 1, 5)}, 3, 19)
	holdArea(t, "a frame", []impl.Rect{rectOf(3, 0, 0, 9, 1), rectOf(3, 0, 8, 9, 9), rectOf(3, 0, 0, 1, 9), rectOf(3, 8, 0, 9, 9)}, 3, 32)
	holdArea(t, "the shared test's", []impl.Rect{rectOf(1, 0, 0, 4, 1), rectOf(1, 4, 0, 6, 3), rectOf(1, 8, 0, 9, 1)}, 1, 11)
}

func TestAreaOfLayers(t *testing.T) {
	list := []impl.Rect{rectOf(0, 0, 0, 1, 1), rectOf(9, 0, 0, 4, 4), rectOf(1, 0, 0, 3, 1), rectOf(9, 2, 2, 6, 6), rectOf(2, -1, -1, 9, 9)}
	wants := []int64{1, 3, 100, 0, 0, 0, 0, 0, 0, 28}
	for layer, want := range wants {
		holdArea(t, "a layer", list, int64(layer), want)
	}
	for _, layer := range outsideOf(0, 9) {
		holdArea(t, "no layer", list, layer, 0)
	}
}

func TestAreaAtTheBounds(t *testing.T) {
	whole := rectOf(5, -10000, -10000, 10000, 10000)
	holdArea(t, "the greatest one", []impl.Rect{whole}, 5, 400000000)
	holdArea(t, "the greatest one again and again", slices.Repeat([]impl.Rect{whole}, impl.MaxRects), 5, 400000000)
	holdArea(t, "its corners", []impl.Rect{rectOf(5, -10000, -10000, -9999, -9999), rectOf(5, 9999, 9999, 10000, 10000), rectOf(5, -10000, 9999, -9999, 10000), rectOf(5, 9999, -10000, 10000, -9999)}, 5, 4)
	holdArea(t, "halves", []impl.Rect{rectOf(5, 0, -10000, 10000, 10000), rectOf(5, -10000, -10000, 0, 10000)}, 5, 400000000)
	holdArea(t, "a great cross", []impl.Rect{rectOf(5, -10000, -1, 10000, 1), rectOf(5, -1, -10000, 1, 10000)}, 5, 80000-4)
	holdArea(t, "as many as may be", apartRects(5, impl.MaxRects), 5, 4*impl.MaxRects)
	holdArea(t, "a stair", stair(impl.MaxRects), 1, 2*impl.MaxRects)
}

func TestAreaDrawn(t *testing.T) {
	for _, list := range drawnLayouts(236, 60) {
		for layer := range int64(3) {
			want := drawnArea(list, layer)
			askArea(list, layer, t, "drawn", impl.MeritInt{Merit: want})
		}
	}
	draw := &numbers{state: 237}
	for range 40 {
		list := drawnRects(draw, draw.below(12), 2, 5000, 5000)
		holdArea(t, "drawn far and wide", list, 0, areaByWords(list, 0).Merit)
	}
	for range 300 {
		list := drawnRects(draw, draw.below(7), 1, 3, 5)
		askArea(list, 0, t, "drawn close together", impl.MeritInt{Merit: drawnArea(list, 0)})
	}
}
