package tests

import (
	"math"
	"slices"
	"testing"

	"loop.example/g00049/impl"
)

func slotMapByWords(n impl.Net, lits []impl.Lit) impl.RowsResult {
	if code := litsCodeByWords(n, lits); code != impl.OK {
		return impl.RowsResult{Code: code}
	}
	rows := [][]int64{}
	for place := range n.Fibres {
		row := []int64{}
		for slot := range n.Slots {
			row = append(row, ownerByWords(lits, int64(place), slot))
		}
		rows = append(rows, row)
	}
	return impl.RowsResult{Rows: rows}
}

func freeByWords(n impl.Net, lits []impl.Lit, path []int64) impl.WaveResult {
	if code := litsCodeByWords(n, lits); code != impl.OK {
		return noWave(code)
	}
	list := []int64{}
	for slot := range n.Slots {
		free := int64(1)
		for _, place := range path {
			if place < 0 || place >= int64(len(n.Fibres)) {
				return noWave(impl.ErrRange)
			}
			if ownerByWords(lits, place, slot) != 0 {
				free = 0
			}
		}
		list = append(list, free)
	}
	return toldWave(list...)
}

// fitByFree tries each slot, and looks at all that would lie there.
func fitByFree(n impl.Net, lits []impl.Lit, path []int64, width int64) int64 {
	free := freeByWords(n, lits, path)
	if free.Code != impl.OK || width < 1 || width > n.Slots {
		return -1
	}
	for first := int64(0); first+width <= n.Slots; first++ {
		if !slices.Contains(free.List[first:first+width], 0) {
			return first
		}
	}
	return -1
}

func holdSlotMap(t *testing.T, what string, n impl.Net, lits []impl.Lit, want impl.RowsResult) {
	t.Helper()
	ask := func(a netArgs) impl.RowsResult { return impl.SlotMap(a.net, a.lits) }
	holdNet(t, what+", SlotMap", netArgs{net: n, lits: lits}, ask, want)
}

func holdFree(t *testing.T, what string, n impl.Net, lits []impl.Lit, path []int64, want impl.WaveResult) {
	t.Helper()
	ask := func(a netArgs) impl.WaveResult { return impl.FreeSlots(a.net, a.lits, a.path) }
	holdNet(t, what+", FreeSlots", netArgs{net: n, lits: lits, path: path}, ask, want)
}

func holdFirstFit(t *testing.T, what string, n impl.Net, lits []impl.Lit, path []int64, width int64, want int64) {
	t.Helper()
	ask := func(a netArgs) int64 { return impl.FirstFit(a.net, a.lits, a.path, width) }
	holdNet(t, what+", FirstFit", netArgs{net: n, lits: lits, path: path}, ask, want)
	if told := fitByFree(n, lits, path, width); told != want {
		t.Errorf("%s: the words tell %d of width %d, not %d", what, told, width, want)
	}
}

// widthsOf are those that fit and those beside them.
func widthsOf(n impl.Net) []int64 {
	widths := []int64{math.MinInt64, math.MinInt64 + 1, -65, -2, -1, 65, 66, 128, 1 << 32, 1<<32 + 1, math.MaxInt64 - 1, math.MaxInt64}
	for width := range n.Slots + 3 {
		widths = append(widths, width)
	}
	return widths
}

// holdRoom holds the slots of a path, and the first room of all widths, against the words.
func holdRoom(t *testing.T, what string, n impl.Net, lits []impl.Lit, path []int64) {
	t.Helper()
	holdFree(t, what, n, lits, path, freeByWords(n, lits, path))
	for _, width := range widthsOf(n) {
		if got, want := impl.FirstFit(n, lits, path, width), fitByFree(n, lits, path, width); got != want {
			t.Errorf("%s: FirstFit(%s, %s, %v, %d) = %d, want %d", what, brief(n), brief(lits), path, width, got, want)
		}
	}
}

// wrongLits have a fault each on the square net.
func wrongLits() map[string][]impl.Lit {
	return map[string][]impl.Lit{
		"an Id":      changedLits(threeLits(), func(l []impl.Lit) { l[1].Id = 3 }),
		"a route":    changedLits(threeLits(), func(l []impl.Lit) { l[2].To = 2 }),
		"no fibre":   changedLits(threeLits(), func(l []impl.Lit) { l[0].Path[1] = 5 }),
		"a width":    changedLits(threeLits(), func(l []impl.Lit) { l[1].Width = 7 }),
		"a room":     changedLits(threeLits(), func(l []impl.Lit) { l[2].First = 1 }),
		"too many":   thinLits(41),
		"no path":    changedLits(threeLits(), func(l []impl.Lit) { l[0].Path = nil }),
		"the lowest": changedLits(threeLits(), func(l []impl.Lit) { l[0].First = math.MinInt64 }),
	}
}

func TestSlotMapTold(t *testing.T) {
	holdSlotMap(t, "three", squareNet(), threeLits(), impl.RowsResult{Rows: [][]int64{
		{3, 3, 900, 900, 900, 900}, {3, 3, 0, 0, 0, 0}, {0, 0, 0, 0, 0, 0}, {0, 0, 0, 0, 0, 0}, {5, 5, 900, 900, 900, 900},
	}})
	holdSlotMap(t, "no light", netOf(3, 2, fibreOf(0, 1, 1), fibreOf(0, 2, 1)), nil, impl.RowsResult{Rows: [][]int64{{0, 0}, {0, 0}}})
	holdSlotMap(t, "no fibre", netOf(1, 64), nil, impl.RowsResult{})
	holdSlotMap(t, "no fibre", netOf(8, 1), []impl.Lit{}, impl.RowsResult{})
	holdSlotMap(t, "great Ids", lineNet(2), []impl.Lit{litOf(1, 0, 1, 1, 1, 0), litOf(math.MaxInt64, 0, 1, 0, 1, 0)}, impl.RowsResult{Rows: [][]int64{{math.MaxInt64, 1}}})
	for _, slots := range []int64{1, 63, 64} {
		full := []impl.Lit{litOf(77, 1, 0, 0, slots, 0)}
		holdSlotMap(t, "full", lineNet(slots), full, impl.RowsResult{Rows: [][]int64{slices.Repeat([]int64{77}, int(slots))}})
	}
	holdSlotMap(t, "forty", lineNet(64), thinLits(40), slotMapByWords(lineNet(64), thinLits(40)))
}

func TestSlotsOfWrongLights(t *testing.T) {
	for what, lits := range wrongLits() {
		code := litsCodeByWords(squareNet(), lits)
		if code == impl.OK {
			t.Errorf("%s: nothing is wrong", what)
		}
		holdSlotMap(t, what, squareNet(), lits, impl.RowsResult{Code: code})
		for _, path := range [][]int64{nil, {0}, {0, 1}, {2, 3}, {-1}, {9, 9}} {
			holdFree(t, what, squareNet(), lits, path, noWave(code))
			for _, width := range []int64{-1, 0, 1, 6, 7} {
				holdFirstFit(t, what, squareNet(), lits, path, width, -1)
			}
		}
	}
	for what, n := range wrongNets() {
		code := netCodeByWords(n)
		for _, lits := range [][]impl.Lit{nil, threeLits(), make([]impl.Lit, 41)} {
			holdSlotMap(t, what, n, lits, impl.RowsResult{Code: code})
			for _, path := range [][]int64{nil, {0}, {-1}} {
				holdFree(t, what, n, lits, path, noWave(code))
				holdFirstFit(t, what, n, lits, path, 1, -1)
			}
		}
	}
}

func TestFreeSlotsTold(t *testing.T) {
	n, lits := squareNet(), threeLits()
	all := toldWave(1, 1, 1, 1, 1, 1)
	holdFree(t, "nil", n, lits, nil, all)
	holdFree(t, "no path", n, lits, []int64{}, all)
	holdFree(t, "a full fibre", n, lits, []int64{0}, toldWave(0, 0, 0, 0, 0, 0))
	holdFree(t, "one fibre", n, lits, []int64{1}, toldWave(0, 0, 1, 1, 1, 1))
	holdFree(t, "the same twice", n, lits, []int64{1, 1}, toldWave(0, 0, 1, 1, 1, 1))
	holdFree(t, "an empty fibre", n, lits, []int64{2}, all)
	holdFree(t, "two empty ones", n, lits, []int64{2, 3}, all)
	holdFree(t, "an empty one and another", n, lits, []int64{2, 1}, toldWave(0, 0, 1, 1, 1, 1))
	holdFree(t, "not joined", n, lits[:2], []int64{3, 4}, toldWave(0, 0, 1, 1, 1, 1))
	holdFree(t, "all fibres", n, lits[1:], []int64{0, 1, 2, 3, 4}, toldWave(0, 0, 0, 0, 0, 0))
	holdFree(t, "no light", n, nil, []int64{4, 0}, all)
	holdFree(t, "no fibre at all", netOf(1, 3), nil, nil, toldWave(1, 1, 1))
	holdFree(t, "very long", n, lits, slices.Repeat([]int64{1, 2}, 50000), toldWave(0, 0, 1, 1, 1, 1))
	for _, none := range noFibres() {
		for _, path := range [][]int64{{none}, {none, 0}, {1, none}, {0, none, 1}, {none, none}} {
			holdFree(t, "no fibre", n, lits, path, noWave(impl.ErrRange))
			for _, width := range []int64{-1, 0, 1, 6, 7} {
				holdFirstFit(t, "no fibre", n, lits, path, width, -1)
			}
		}
	}
	holdFree(t, "no such fibre", netOf(1, 3), nil, []int64{0}, noWave(impl.ErrRange))
}

func TestFirstFitTold(t *testing.T) {
	n, lits := squareNet(), threeLits()
	for width := int64(1); width <= 6; width++ {
		holdFirstFit(t, "all free", n, lits, []int64{3, 2}, width, 0)
		holdFirstFit(t, "no path", n, lits, nil, width, 0)
		holdFirstFit(t, "none free", n, lits, []int64{0}, width, -1)
		holdFirstFit(t, "none free", n, lits, []int64{3, 0}, width, -1)
	}
	for width, want := range []int64{-1, 2, 2, 2, 2, -1, -1, -1} {
		holdFirstFit(t, "four free", n, lits, []int64{1}, int64(width), want)
		holdFirstFit(t, "a fibre twice", n, lits, []int64{1, 1}, int64(width), want)
	}
	for _, width := range []int64{0, -1, -6, 7, 8, 64, 65, 1 << 32, 1<<32 + 1, math.MaxInt64, math.MinInt64, math.MinInt64 + 1} {
		for _, path := range [][]int64{nil, {0}, {1}, {2, 3}} {
			holdFirstFit(t, "wrong width", n, lits, path, width, -1)
		}
	}
	holdFirstFit(t, "as wide as may be", lineNet(64), nil, []int64{0}, 64, 0)
	holdFirstFit(t, "wider", lineNet(64), nil, []int64{0}, 65, -1)
}

// TestFirstFitOfRuns: on one fibre, all ways to have up to eight slots taken.
func TestFirstFitOfRuns(t *testing.T) {
	for _, slots := range []int64{1, 2, 3, 7, 8} {
		for taken := range int64(1) << slots {
			lits := []impl.Lit{}
			for slot := range slots {
				if taken>>slot&1 == 1 {
					lits = append(lits, litOf(slot+1, 0, 1, slot, 1, 0))
				}
			}
			for width := int64(-1); width <= slots+1; width++ {
				if got, want := impl.FirstFit(lineNet(slots), lits, []int64{0}, width), fitByFree(lineNet(slots), lits, []int64{0}, width); got != want {
					t.Errorf("FirstFit of %b, width %d: %d, want %d", taken, width, got, want)
				}
			}
		}
	}
	two := []impl.Lit{litOf(1, 0, 1, 2, 1, 0), litOf(2, 0, 1, 6, 58, 0)}
	holdFirstFit(t, "the first run", lineNet(64), two, []int64{0}, 2, 0)
	holdFirstFit(t, "the second run", lineNet(64), two, []int64{0}, 3, 3)
	holdFirstFit(t, "one too short", lineNet(64), two, []int64{0}, 4, -1)
	end := []impl.Lit{litOf(1, 0, 1, 0, 60, 0)}
	holdFirstFit(t, "up to the end", lineNet(64), end, []int64{0}, 4, 60)
	holdFirstFit(t, "beyond the end", lineNet(64), end, []int64{0}, 5, -1)
}

func TestSlotsByWords(t *testing.T) {
	draw := numbers{state: 1830}
	for range 150 {
		n := drawnNet(&draw, 2+draw.below(6), 1+draw.below(20), 1+int(draw.below(14)), 50)
		lits := drawnLits(&draw, n, 15, 5)
		holdSlotMap(t, "drawn", n, lits, slotMapByWords(n, lits))
		for range 6 {
			path := []int64{}
			for range draw.below(5) {
				path = append(path, draw.below(int64(len(n.Fibres))))
			}
			holdRoom(t, "drawn", n, lits, path)
		}
	}
	n := drawnNet(&draw, 8, 64, 14, 50)
	lits := drawnLits(&draw, n, 200, 20)
	holdSlotMap(t, "great", n, lits, slotMapByWords(n, lits))
	for place := range int64(14) {
		holdRoom(t, "great", n, lits, []int64{place})
	}
}
