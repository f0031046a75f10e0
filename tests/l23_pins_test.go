package tests

import (
	"fmt"
	"math"
	"slices"
	"testing"

	"loop.example/g00049/impl"
)

// pinNetsByWords looks from the last rectangle to the first, which is told if it comes last.
func pinNetsByWords(list []impl.Rect, pins []impl.Pin) impl.WaveResult {
	nets := netsByWords(list)
	if nets.Code != impl.OK {
		return impl.WaveResult{Code: nets.Code}
	}
	if len(pins) > 200 {
		return impl.WaveResult{Code: impl.ErrMany}
	}
	told := impl.WaveResult{}
	for _, pin := range pins {
		net := int64(-1)
		for i := len(list) - 1; i >= 0; i-- {
			if list[i].Layer == pin.Layer && isInside(pin.X, list[i].X0, list[i].X1) && isInside(pin.Y, list[i].Y0, list[i].Y1) {
				net = nets.List[i]
			}
		}
		told.List = append(told.List, net)
	}
	return told
}

func holdPins(t *testing.T, what string, list []impl.Rect, pins []impl.Pin, want impl.WaveResult) {
	t.Helper()
	ask := func(a layoutArgs) impl.WaveResult { return impl.PinNets(a.rects, a.pins) }
	holdCall(t, what+", PinNets", layoutArgs{rects: list, pins: pins}, ask, want)
	if told := pinNetsByWords(list, pins); fmt.Sprint(told) != fmt.Sprint(want) {
		t.Errorf("%s: the words tell %s of %s, not %s", what, brief(told), brief(pins), brief(want))
	}
}

func TestPinNetsOfFaults(t *testing.T) {
	many := slices.Repeat([]impl.Pin{pinOf(1, 0, 0)}, 201)
	for _, faulty := range faultyLayouts() {
		for _, pins := range [][]impl.Pin{nil, many[:1], many[:200], many} {
			holdPins(t, faulty.what, faulty.list, pins, impl.WaveResult{Code: faulty.code})
		}
	}
	box := []impl.Rect{rectOf(1, 0, 0, 1, 1)}
	holdPins(t, "200 pins", box, many[:200], netsOf(make([]int64, 200)...))
	holdPins(t, "201 pins", box, many, impl.WaveResult{Code: impl.ErrMany})
	holdPins(t, "2010 pins", box, slices.Repeat(many, 10), impl.WaveResult{Code: impl.ErrMany})
	holdPins(t, "201 pins on nothing", nil, many, impl.WaveResult{Code: impl.ErrMany})
	holdPins(t, "200 pins on nothing", nil, many[:200], netsOf(slices.Repeat([]int64{-1}, 200)...))
	holdPins(t, "no pin", box, nil, netsOf())
	holdPins(t, "no pin on nothing", nil, []impl.Pin{}, netsOf())
}

func TestPinNetsAboutABox(t *testing.T) {
	list := []impl.Rect{rectOf(2, 50, 50, 60, 60), rectOf(1, 0, 0, 4, 3)}
	xs := []int64{math.MinInt64, math.MinInt64 + 4, -1 << 32, -1, 0, 1, 3, 4, 5, 1 << 32, math.MaxInt64 - 1, math.MaxInt64}
	ys := []int64{math.MinInt64, math.MinInt64 + 3, 1<<32 + 1, -1, 0, 2, 3, 4, math.MaxInt64}
	layers := []int64{0, 1, 2, 9, -1, 10, 1<<32 + 1, math.MinInt64, math.MaxInt64}
	for _, x := range xs {
		for _, y := range ys {
			for _, layer := range layers {
				net := int64(-1)
				if layer == 1 && isInside(x, 0, 4) && isInside(y, 0, 3) {
					net = 1
				}
				holdPins(t, "about a box", list, []impl.Pin{pinOf(layer, x, y)}, netsOf(net))
			}
		}
	}
}

func TestPinNetsTold(t *testing.T) {
	list := []impl.Rect{rectOf(1, 0, 0, 4, 1), rectOf(1, 4, 0, 6, 3), rectOf(1, 8, 0, 9, 1)}
	holdPins(t, "the shared test's", list, []impl.Pin{pinOf(1, 8, 0), pinOf(2, 0, 0)}, netsOf(1, -1))
	corner := []impl.Rect{rectOf(3, 0, 0, 2, 2), rectOf(3, 2, 2, 4, 4)}
	holdPins(t, "the first one of two nets", corner, []impl.Pin{pinOf(3, 2, 2), pinOf(3, 3, 2), pinOf(3, 2, 1)}, netsOf(0, 1, 0))
	metal := []impl.Rect{rectOf(4, 9, 9, 10, 10), rectOf(2, 0, 0, 5, 5), rectOf(1, 0, 0, 5, 5), rectOf(0, 1, 1, 2, 2), rectOf(1, 5, 5, 6, 6)}
	holdPins(t, "layers over each other", metal, []impl.Pin{pinOf(1, 3, 3), pinOf(2, 3, 3), pinOf(0, 3, 3), pinOf(0, 1, 2), pinOf(3, 1, 1), pinOf(1, 5, 5), pinOf(1, 6, 5), pinOf(4, 9, 10)}, netsOf(1, 1, -1, 1, -1, 1, 2, 0))
	late := []impl.Rect{rectOf(5, 0, 0, 2, 2), rectOf(5, 4, 0, 6, 2), rectOf(5, 0, 2, 6, 3)}
	holdPins(t, "joined late", late, []impl.Pin{pinOf(5, 5, 1), pinOf(5, 3, 1), pinOf(5, 3, 3)}, netsOf(0, -1, 0))
	bounds := []impl.Rect{rectOf(9, -10000, -10000, 10000, 10000)}
	holdPins(t, "at the bounds", bounds, []impl.Pin{pinOf(9, -10000, 10000), pinOf(9, 10001, 0), pinOf(9, 0, -10001)}, netsOf(0, -1, -1))
}

func TestPinNetsDrawn(t *testing.T) {
	draw := &numbers{state: 245}
	for _, list := range drawnLayouts(246, 150) {
		pins := drawnPins(draw, list, draw.below(210))
		holdPins(t, "drawn", list, pins, pinNetsByWords(list, pins))
	}
	for range 500 {
		list := drawnRects(draw, draw.below(7), 3, 3, 4)
		pins := drawnPins(draw, list, draw.below(9))
		holdPins(t, "drawn close together", list, pins, pinNetsByWords(list, pins))
	}
}
