package tests

import (
	"math"
	"testing"

	"loop.example/g00049/impl"
)

func topByWords(n impl.Net, lits []impl.Lit) int64 {
	if litsCodeByWords(n, lits) != impl.OK {
		return 0
	}
	top := int64(0)
	for place := range n.Fibres {
		for slot := range n.Slots {
			if ownerByWords(lits, int64(place), slot) != 0 && slot >= top {
				top = slot + 1
			}
		}
	}
	return top
}

// isBelowALight says whether a light has a slot above this one on the fibre.
func isBelowALight(n impl.Net, lits []impl.Lit, place int64, slot int64) bool {
	for above := slot + 1; above < n.Slots; above++ {
		if ownerByWords(lits, place, above) != 0 {
			return true
		}
	}
	return false
}

func holesByWords(n impl.Net, lits []impl.Lit) int64 {
	if litsCodeByWords(n, lits) != impl.OK {
		return 0
	}
	holes := int64(0)
	for place := range int64(len(n.Fibres)) {
		for slot := range n.Slots {
			if ownerByWords(lits, place, slot) == 0 && isBelowALight(n, lits, place, slot) {
				holes++
			}
		}
	}
	return holes
}

func holdHoles(t *testing.T, what string, n impl.Net, lits []impl.Lit, top int64, holes int64) {
	t.Helper()
	args := netArgs{net: n, lits: lits}
	holdNet(t, what+", TopSlot", args, func(a netArgs) int64 { return impl.TopSlot(a.net, a.lits) }, top)
	holdNet(t, what+", HolesOf", args, func(a netArgs) int64 { return impl.HolesOf(a.net, a.lits) }, holes)
	if topByWords(n, lits) != top || holesByWords(n, lits) != holes {
		t.Errorf("%s: the words tell %d and %d, not %d and %d", what, topByWords(n, lits), holesByWords(n, lits), top, holes)
	}
}

func TestHolesTold(t *testing.T) {
	n := squareNet()
	holdHoles(t, "nil", n, nil, 0, 0)
	holdHoles(t, "none", n, []impl.Lit{}, 0, 0)
	holdHoles(t, "no fibre", netOf(1, 1), nil, 0, 0)
	holdHoles(t, "without a hole", n, threeLits(), 6, 0)
	holdHoles(t, "two fibres", n, threeLits()[:1], 2, 0)
	holdHoles(t, "the highest alone", n, threeLits()[2:], 6, 4)
	three := netOf(3, 4, fibreOf(0, 1, 10), fibreOf(1, 2, 10), fibreOf(0, 2, 30))
	holdHoles(t, "two lights", three, []impl.Lit{litOf(1, 0, 1, 2, 1, 0), litOf(2, 0, 2, 3, 1, 0, 1)}, 4, 5)
	holdHoles(t, "between two", lineNet(9), []impl.Lit{litOf(1, 0, 1, 0, 2, 0), litOf(2, 0, 1, 5, 1, 0)}, 6, 3)
	holdHoles(t, "between two, the first above", lineNet(9), []impl.Lit{litOf(1, 0, 1, 5, 1, 0), litOf(2, 0, 1, 0, 2, 0)}, 6, 3)
	holdHoles(t, "below and between", lineNet(9), []impl.Lit{litOf(1, 0, 1, 5, 1, 0), litOf(2, 0, 1, 1, 2, 0)}, 6, 3)
	holdHoles(t, "above each fibre's own", n, []impl.Lit{litOf(1, 0, 1, 1, 1, 0), litOf(2, 1, 2, 3, 2, 1), litOf(3, 0, 3, 0, 6, 3)}, 6, 4)
	holdHoles(t, "greatest Ids", n, []impl.Lit{litOf(math.MaxInt64, 0, 2, 3, 1, 0, 1)}, 4, 6)
}

// TestHolesOfOneLight: wherever it lies, on one fibre and on several.
func TestHolesOfOneLight(t *testing.T) {
	for _, slots := range []int64{1, 2, 7, 63, 64} {
		for _, width := range []int64{1, 2, slots - 1, slots} {
			for _, first := range []int64{0, 1, 2, slots - width} {
				if width < 1 || first < 0 || first+width > slots {
					continue
				}
				holdHoles(t, "one fibre", rowNet(slots), []impl.Lit{litOf(1, 0, 3, first, width, 3)}, first+width, first)
				holdHoles(t, "two fibres", rowNet(slots), []impl.Lit{litOf(1, 2, 0, first, width, 1, 0)}, first+width, 2*first)
				holdHoles(t, "three fibres", rowNet(slots), []impl.Lit{litOf(1, 0, 3, first, width, 0, 1, 2)}, first+width, 3*first)
			}
		}
	}
}

// TestHolesOfRuns: on one fibre, all ways to have up to eight slots taken.
func TestHolesOfRuns(t *testing.T) {
	for _, slots := range []int64{1, 2, 5, 8} {
		for taken := range int64(1) << slots {
			lits, top := []impl.Lit{}, int64(0)
			for slot := range slots {
				if taken>>slot&1 == 1 {
					lits = append(lits, litOf(slot+1, 0, 1, slot, 1, 0))
					top = slot + 1
				}
			}
			holdHoles(t, "runs", lineNet(slots), lits, top, top-int64(len(lits)))
		}
	}
}

func TestHolesOfFaults(t *testing.T) {
	for what, lits := range wrongLits() {
		holdHoles(t, what, squareNet(), lits, 0, 0)
	}
	high := []impl.Lit{litOf(1, 0, 1, 3, 1, 0)}
	for what, wrong := range wrongNets() {
		for _, lits := range [][]impl.Lit{nil, high, threeLits(), thinLits(41)} {
			holdHoles(t, what, wrong, lits, 0, 0)
		}
	}
	holdHoles(t, "the second one wrong", squareNet(), append(high, litOf(2, 0, 1, 5, 2, 0)), 0, 0)
	holdHoles(t, "the second one in its place", squareNet(), append(high, litOf(2, 0, 1, 5, 1, 0)), 6, 4)
}

func TestHolesByWords(t *testing.T) {
	draw := numbers{state: 2030}
	all := int64(0)
	for range 300 {
		n := drawnNet(&draw, 2+draw.below(7), 1+draw.below(64), 1+int(draw.below(14)), 50)
		lits := drawnLits(&draw, n, int(draw.below(12)), 6)
		holes := holesByWords(n, lits)
		holdHoles(t, "drawn", n, lits, topByWords(n, lits), holes)
		all += holes
	}
	if all < 10000 {
		t.Errorf("%d holes", all)
	}
}
