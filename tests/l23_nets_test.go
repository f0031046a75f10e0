package tests

import (
	"fmt"
	"slices"
	"testing"

	"loop.example/g00049/impl"
)

// pointsInCommon counts the whole points that both boxes have, edges counted; an area has four of them at least, an edge two.
func pointsInCommon(a impl.Rect, b impl.Rect) int {
	return numbersInCommon(a.X0, a.X1, b.X0, b.X1) * numbersInCommon(a.Y0, a.Y1, b.Y0, b.Y1)
}

func numbersInCommon(from int64, to int64, otherFrom int64, otherTo int64) int {
	count := 0
	for number := from; number <= to; number++ {
		if isInside(number, otherFrom, otherTo) {
			count++
		}
	}
	return count
}

// squaresInCommon says whether a square of side 1 lies in both boxes.
func squaresInCommon(a impl.Rect, b impl.Rect) bool {
	return numbersInCommon(a.X0, a.X1-1, b.X0, b.X1-1) > 0 && numbersInCommon(a.Y0, a.Y1-1, b.Y0, b.Y1-1) > 0
}

func isViaByWords(via impl.Rect, metal impl.Rect) bool {
	return via.Layer == 0 && (metal.Layer == 1 || metal.Layer == 2)
}

func joinedByWords(a impl.Rect, b impl.Rect) bool {
	if a.Layer == b.Layer {
		return pointsInCommon(a, b) > 1
	}
	return (isViaByWords(a, b) || isViaByWords(b, a)) && squaresInCommon(a, b)
}

// firstsByWords spreads the lowest place through all that is joined, until nothing changes.
func firstsByWords(list []impl.Rect) []int {
	firsts := []int{}
	for i := range list {
		firsts = append(firsts, i)
	}
	for changes := true; changes; {
		changes = false
		for i := range list {
			for j := range list {
				if firsts[j] < firsts[i] && joinedByWords(list[i], list[j]) {
					firsts[i], changes = firsts[j], true
				}
			}
		}
	}
	return firsts
}

// netsByWords numbers each net by how many others begin ahead of it.
func netsByWords(list []impl.Rect) impl.WaveResult {
	if code := rectsCodeByWords(list); code != impl.OK {
		return impl.WaveResult{Code: code}
	}
	told, firsts := impl.WaveResult{}, firstsByWords(list)
	for _, first := range firsts {
		number := int64(0)
		for i, other := range firsts {
			if i == other && i < first {
				number++
			}
		}
		told.List = append(told.List, number)
	}
	return told
}

func netsOf(nets ...int64) impl.WaveResult {
	return impl.WaveResult{List: nets}
}

func holdNets(t *testing.T, what string, list []impl.Rect, want impl.WaveResult) {
	t.Helper()
	holdCall(t, what+", NetsOf", layoutArgs{rects: list}, func(a layoutArgs) impl.WaveResult { return impl.NetsOf(a.rects) }, want)
	if told := netsByWords(list); fmt.Sprint(told) != fmt.Sprint(want) {
		t.Errorf("%s: the words tell %s of %s, not %s", what, brief(told), brief(list), brief(want))
	}
}

// pairCommon is what a box and that of 0, 0 to 10, 10 have in common.
type pairCommon struct {
	what  string
	box   impl.Rect
	edges bool
	area  bool
}

func pairsInCommon() []pairCommon {
	return []pairCommon{
		{"the same", rectOf(0, 0, 0, 10, 10), true, true},
		{"one within", rectOf(0, 3, 4, 5, 5), true, true},
		{"one about", rectOf(0, -1, -1, 11, 11), true, true},
		{"a cross", rectOf(0, -5, 4, 15, 6), true, true},
		{"an area of one square", rectOf(0, 9, 9, 20, 20), true, true},
		{"an area on the left", rectOf(0, -4, -4, 1, 1), true, true},
		{"a line at the left", rectOf(0, -4, 2, 1, 3), true, true},
		{"an edge at the right", rectOf(0, 10, 0, 20, 10), true, false},
		{"an edge above", rectOf(0, 0, 10, 10, 11), true, false},
		{"a part of an edge at the left", rectOf(0, -1, 9, 0, 10), true, false},
		{"a part of an edge below", rectOf(0, 4, -7, 5, 0), true, false},
		{"a longer edge at the right", rectOf(0, 10, -5, 12, 15), true, false},
		{"one long of an edge at the corner", rectOf(0, 10, 9, 12, 15), true, false},
		{"one long of an edge above at the corner", rectOf(0, -5, 10, 1, 12), true, false},
		{"the corner right above", rectOf(0, 10, 10, 12, 12), false, false},
		{"the corner right below", rectOf(0, 10, -3, 12, 0), false, false},
		{"the corner left above", rectOf(0, -3, 10, 0, 12), false, false},
		{"the corner left below", rectOf(0, -2, -2, 0, 0), false, false},
		{"a gap of 1 at the right", rectOf(0, 11, 0, 20, 10), false, false},
		{"a gap of 1 at the left", rectOf(0, -5, 0, -1, 10), false, false},
		{"a gap of 1 above", rectOf(0, 0, 11, 10, 12), false, false},
		{"a gap of 1 below", rectOf(0, 0, -9, 10, -1), false, false},
		{"above the corner", rectOf(0, 10, 11, 12, 12), false, false},
		{"beside the corner", rectOf(0, 11, 10, 12, 12), false, false},
		{"a gap of 2 on an edge's line", rectOf(0, 12, 10, 14, 12), false, false},
		{"a gap that is less than what lies side by side", rectOf(0, 11, -5, 20, 15), false, false},
	}
}

func areLayersJoined(a int64, b int64, pair pairCommon) bool {
	if a == b {
		return pair.edges
	}
	return min(a, b) == 0 && max(a, b) <= 2 && pair.area
}

func TestNetsOfPairs(t *testing.T) {
	for _, pair := range pairsInCommon() {
		for a := range int64(10) {
			for b := range int64(10) {
				first, second := rectOf(a, 0, 0, 10, 10), pair.box
				second.Layer = b
				want := netsOf(0, 1)
				if areLayersJoined(a, b, pair) {
					want = netsOf(0, 0)
				}
				what := fmt.Sprint(pair.what, ", layers ", a, " and ", b)
				holdNets(t, what, []impl.Rect{first, second}, want)
				holdNets(t, what+", the other one first", []impl.Rect{second, first}, want)
			}
		}
	}
}

func TestNetsOfFaults(t *testing.T) {
	for _, faulty := range faultyLayouts() {
		holdNets(t, faulty.what, faulty.list, impl.WaveResult{Code: faulty.code})
	}
}

func TestNetsTold(t *testing.T) {
	holdNets(t, "nil", nil, netsOf())
	holdNets(t, "none", []impl.Rect{}, netsOf())
	holdNets(t, "one", []impl.Rect{rectOf(9, -10000, -10000, 10000, 10000)}, netsOf(0))
	holdNets(t, "the shared test's", []impl.Rect{rectOf(1, 0, 0, 4, 1), rectOf(1, 4, 0, 6, 3), rectOf(1, 8, 0, 9, 1)}, netsOf(0, 0, 1))
	via, low, high := rectOf(0, 3, 3, 5, 5), rectOf(1, 0, 3, 5, 5), rectOf(2, 3, 0, 5, 9)
	holdNets(t, "metal on metal", []impl.Rect{low, high}, netsOf(0, 1))
	holdNets(t, "a via", []impl.Rect{low, high, via}, netsOf(0, 0, 0))
	holdNets(t, "a via first", []impl.Rect{via, high, low}, netsOf(0, 0, 0))
	other := rectOf(3, 0, 0, 9, 9)
	holdNets(t, "a layer that no via meets", []impl.Rect{other, low, high, via}, netsOf(0, 1, 1, 1))
	holdNets(t, "two vias on one piece", []impl.Rect{rectOf(0, 0, 0, 1, 1), rectOf(0, 8, 0, 9, 1), rectOf(2, 0, 0, 9, 1)}, netsOf(0, 0, 0))
	holdNets(t, "two vias side by side", []impl.Rect{rectOf(0, 0, 0, 1, 1), rectOf(0, 1, 0, 2, 1), low, high}, netsOf(0, 0, 1, 2))
	holdNets(t, "a via with its edge on the metal", []impl.Rect{rectOf(1, 0, 0, 4, 4), rectOf(0, 4, 0, 6, 4), rectOf(2, 5, 0, 9, 4)}, netsOf(0, 1, 1))
}

func TestNetsComeTogetherLate(t *testing.T) {
	left, middle, right := rectOf(4, 0, 0, 2, 2), rectOf(4, 5, 0, 7, 2), rectOf(4, 10, 0, 12, 2)
	across := rectOf(4, 1, 1, 11, 2)
	holdNets(t, "all three", []impl.Rect{left, middle, right, across}, netsOf(0, 0, 0, 0))
	holdNets(t, "two of them", []impl.Rect{left, middle, right, rectOf(4, 6, 1, 11, 2)}, netsOf(0, 1, 1, 1))
	holdNets(t, "the outer ones", []impl.Rect{left, middle, right, rectOf(4, 1, 2, 11, 3), rectOf(4, 20, 0, 21, 1)}, netsOf(0, 0, 0, 0, 1))
	around := []impl.Rect{left, middle, right, rectOf(4, 0, 2, 1, 9), rectOf(4, 11, 2, 12, 9), rectOf(4, 0, 8, 12, 9)}
	holdNets(t, "about the middle one", around, netsOf(0, 1, 0, 0, 0, 0))
	holdNets(t, "a corner on the way", []impl.Rect{left, rectOf(4, 2, 2, 4, 4), rectOf(4, 4, 2, 6, 4)}, netsOf(0, 1, 1))
	holdNets(t, "numbers without a gap", []impl.Rect{left, rectOf(5, 0, 0, 1, 1), left, middle, rectOf(5, 0, 0, 1, 2), right}, netsOf(0, 1, 0, 2, 1, 3))
}

// stair is a row of boxes each of which has an edge in common with the next one.
func stair(count int64) []impl.Rect {
	list := []impl.Rect{}
	for i := range count {
		list = append(list, rectOf(1, i, i, i+1, i+2))
	}
	return list
}

func TestNetsOfManyRects(t *testing.T) {
	lone, alone, one := apartRects(7, impl.MaxRects), []int64{}, make([]int64, impl.MaxRects)
	for i := range lone {
		alone = append(alone, int64(i))
	}
	holdNets(t, "all alone", lone, netsOf(alone...))
	holdNets(t, "a stair", stair(impl.MaxRects), netsOf(one...))
	same := slices.Repeat([]impl.Rect{rectOf(6, -3, 2, 4, 5)}, impl.MaxRects)
	holdNets(t, "one again and again", same, netsOf(one...))
	draw := &numbers{state: 232}
	for range 20 {
		mixed := stair(impl.MaxRects)
		for i := range mixed {
			j := draw.below(int64(i + 1))
			mixed[i], mixed[j] = mixed[j], mixed[i]
		}
		holdNets(t, "a stair in another order", mixed, netsOf(one...))
	}
}

func TestNetsDrawn(t *testing.T) {
	for _, list := range drawnLayouts(233, 150) {
		holdNets(t, "drawn", list, netsByWords(list))
	}
	draw := &numbers{state: 234}
	for range 1500 {
		list := drawnRects(draw, 2+draw.below(6), 4, 4, 4)
		holdNets(t, "drawn close together", list, netsByWords(list))
	}
}

// TestNetsAreTheirFirsts holds the numbers themselves: 0 first, each one more than all ahead of it or one of them.
func TestNetsAreTheirFirsts(t *testing.T) {
	for _, list := range drawnLayouts(235, 300) {
		nets, most := impl.NetsOf(list), int64(0)
		for i, net := range nets.List {
			if net < 0 || net > most {
				t.Errorf("the net %d of rectangle %d of %s leaves a gap", net, i, brief(list))
			}
			most = max(most, net+1)
		}
		if len(nets.List) != len(list) || nets.Code != impl.OK {
			t.Errorf("%s of %s", brief(nets), brief(list))
		}
	}
}
