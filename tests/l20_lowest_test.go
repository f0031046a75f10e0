package tests

import (
	"fmt"
	"math"
	"testing"

	"loop.example/g00049/impl"
)

// lowestByWords tries each slot, from 0 on.
func lowestByWords(n impl.Net, lits []impl.Lit, id int64) int64 {
	for to := range n.Slots {
		if slideByWords(n, lits, slideOf(id, to)).Code == impl.OK {
			return to
		}
	}
	return -1
}

// holdLowest asks SlideTo of each slot, too: the first one that it takes is the answer.
func holdLowest(t *testing.T, what string, n impl.Net, lits []impl.Lit, id int64, want int64) {
	t.Helper()
	ask := func(a netArgs) int64 { return impl.LowestSlide(a.net, a.lits, id) }
	holdNet(t, fmt.Sprint(what, ", LowestSlide of ", id), netArgs{net: n, lits: lits}, ask, want)
	for to := range n.Slots {
		slides := impl.SlideTo(n, lits, slideOf(id, to)).Code == impl.OK
		if slides && (want < 0 || to < want) || !slides && to == want {
			t.Errorf("%s: SlideTo of %d to %d answers %v, the lowest is %d", what, id, to, slides, want)
		}
	}
	if told := lowestByWords(n, lits, id); told != want {
		t.Errorf("%s: the words tell %d of %d, not %d", what, told, id, want)
	}
}

func TestLowestTold(t *testing.T) {
	n, lits := squareNet(), threeLits()
	holdLowest(t, "at 0", n, lits, 3, 0)
	holdLowest(t, "at 0", n, lits, 5, 0)
	holdLowest(t, "can't move", n, lits, 900, 2)
	holdLowest(t, "down to 0", n, lits[2:], 900, 0)
	holdLowest(t, "down to 0", n, []impl.Lit{litOf(1, 0, 1, 5, 1, 0)}, 1, 0)
	higher := changedLits(lits[:2], func(l []impl.Lit) { l[0].First, l[1].First = 3, 4 })
	holdLowest(t, "nothing in common", n, higher, 3, 0)
	holdLowest(t, "nothing in common", n, higher, 5, 0)
	two := []impl.Lit{litOf(1, 0, 1, 2, 1, 0), litOf(2, 0, 2, 4, 1, 0, 1)}
	holdLowest(t, "room below the other one", n, two, 2, 3)
	holdLowest(t, "one above", n, two, 1, 0)
	holdLowest(t, "the greatest Id", n, []impl.Lit{litOf(math.MaxInt64, 1, 3, 5, 1, 4)}, math.MaxInt64, 0)
}

func TestLowestAlone(t *testing.T) {
	for _, slots := range []int64{1, 2, 6, 64} {
		for width := int64(1); width <= slots; width++ {
			for first := int64(0); first+width <= slots; first += 1 + slots/8 {
				holdLowest(t, "alone", lineNet(slots), []impl.Lit{litOf(4, 0, 1, first, width, 0)}, 4, 0)
			}
		}
	}
}

// TestLowestOverOneSlot: another light has one slot on one fibre.
func TestLowestOverOneSlot(t *testing.T) {
	const slots, first, width = 9, 5, 2
	ends := [][2]int64{{0, 1}, {1, 2}, {2, 3}, {0, 3}}
	for place, end := range ends {
		for taken := range int64(slots) {
			want := int64(0)
			if place < 3 && taken < first {
				want = taken + 1
			}
			if place < 3 && taken >= first && taken < first+width {
				continue
			}
			for _, id := range []int64{3, 7} {
				other := litOf(id, end[0], end[1], taken, 1, int64(place))
				lits := byId([]impl.Lit{litOf(5, 0, 3, first, width, 0, 1, 2)}, other)
				holdLowest(t, "one slot", rowNet(slots), lits, 5, want)
			}
		}
	}
}

// TestLowestOfTheHighest: of several lights below, on several fibres, the highest one stops it.
func TestLowestOfTheHighest(t *testing.T) {
	n := rowNet(20)
	for a := range int64(4) {
		for b := range int64(4) {
			for c := range int64(4) {
				lits := []impl.Lit{litOf(1, 0, 1, a, 2, 0), litOf(2, 1, 2, b, 3, 1), litOf(4, 0, 3, 12, 5, 0, 1, 2), litOf(5, 3, 2, c, 1, 2), litOf(6, 0, 3, 0, 20, 3)}
				holdLowest(t, "three below", n, lits, 4, max(a+2, b+3, c+1))
			}
		}
	}
}

func TestLowestOfNoLight(t *testing.T) {
	for _, id := range noIds() {
		holdLowest(t, "no such Id", squareNet(), guardedLits(), id, -1)
		holdLowest(t, "no light", squareNet(), nil, id, -1)
		holdLowest(t, "no light", squareNet(), []impl.Lit{}, id, -1)
		holdLowest(t, "no fibre", netOf(1, 1), nil, id, -1)
	}
}

func TestLowestOfFaults(t *testing.T) {
	for _, id := range []int64{3, 5, 900, 1, 0, -1} {
		for what, lits := range wrongLits() {
			holdLowest(t, what, squareNet(), lits, id, -1)
		}
		for what, wrong := range wrongNets() {
			for _, lits := range [][]impl.Lit{nil, threeLits(), thinLits(41)} {
				holdLowest(t, what, wrong, lits, id, -1)
			}
		}
	}
}

func TestLowestByWords(t *testing.T) {
	draw := numbers{state: 2010}
	moved, stayed, stopped := 0, 0, 0
	for range 150 {
		n := drawnNet(&draw, 2+draw.below(6), 1+draw.below(30), 1+int(draw.below(12)), 50)
		lits := drawnLits(&draw, n, 3+int(draw.below(20)), 4)
		for _, lit := range lits {
			want := lowestByWords(n, lits, lit.Id)
			holdLowest(t, "drawn", n, lits, lit.Id, want)
			switch want {
			case lit.First:
				stayed++
			case 0:
				moved++
			default:
				stopped++
			}
		}
	}
	if moved < 100 || stayed < 100 || stopped < 100 {
		t.Errorf("%d moved, %d stayed, %d stopped", moved, stayed, stopped)
	}
}
