package tests

import (
	"fmt"
	"math"
	"slices"
	"testing"

	"loop.example/g00049/impl"
)

func slideOf(id int64, to int64) impl.Slide {
	return impl.Slide{Id: id, To: to}
}

// slidLits are copies of the lights, with another First for the one of that Id.
func slidLits(lits []impl.Lit, slide impl.Slide) []impl.Lit {
	return changedLits(lits, func(l []impl.Lit) {
		for i := range l {
			if l[i].Id == slide.Id {
				l[i].First = slide.To
			}
		}
	})
}

func slideByWords(n impl.Net, lits []impl.Lit, slide impl.Slide) impl.LitsResult {
	if code := litsCodeByWords(n, lits); code != impl.OK {
		return noLits(code)
	}
	lit, has := litById(lits, slide.Id)
	if !has {
		return noLits(impl.ErrNone)
	}
	if slide.To < 0 || slide.To > 64 || slide.To+lit.Width > n.Slots {
		return noLits(impl.ErrRange)
	}
	lesser, greater := lit.First, slide.To
	if greater < lesser {
		lesser, greater = greater, lesser
	}
	for slot := lesser; slot <= greater+lit.Width-1; slot++ {
		for _, place := range lit.Path {
			if owner := ownerByWords(lits, place, slot); owner != 0 && owner != lit.Id {
				return noLits(impl.ErrTaken)
			}
		}
	}
	return toldLits(slidLits(lits, slide)...)
}

// slideByStep moves a light that there is a slot at a time, and asks at each place whether the lights may lie so.
func slideByStep(n impl.Net, lits []impl.Lit, slide impl.Slide) int64 {
	lit, _ := litById(lits, slide.Id)
	step := int64(1)
	if slide.To < lit.First {
		step = -1
	}
	for first := lit.First; first != slide.To; {
		first += step
		if code := litsCodeByWords(n, slidLits(lits, slideOf(slide.Id, first))); code != impl.OK {
			return code
		}
	}
	return impl.OK
}

func holdSlide(t *testing.T, what string, n impl.Net, lits []impl.Lit, slide impl.Slide, want impl.LitsResult) {
	t.Helper()
	ask := func(a netArgs) impl.LitsResult { return impl.SlideTo(a.net, a.lits, slide) }
	holdNet(t, fmt.Sprint(what, ", SlideTo of ", slide), netArgs{net: n, lits: lits}, ask, want)
	if told := slideByWords(n, lits, slide); fmt.Sprint(told) != fmt.Sprint(want) {
		t.Errorf("%s: the words tell %s of %v, not %s", what, brief(told), slide, brief(want))
	}
}

// holdSlid has the light slide, and all others stay as they were.
func holdSlid(t *testing.T, what string, n impl.Net, lits []impl.Lit, slide impl.Slide) {
	t.Helper()
	holdSlide(t, what, n, lits, slide, toldLits(slidLits(lits, slide)...))
}

// rowNet is a line of four nodes, with a fibre from its one end to the other beside it.
func rowNet(slots int64) impl.Net {
	return netOf(4, slots, fibreOf(0, 1, 10), fibreOf(1, 2, 10), fibreOf(2, 3, 10), fibreOf(0, 3, 10))
}

// noSlots are numbers from which on no light can begin, whatever its width.
func noSlots(slots int64) []int64 {
	return []int64{-1, -2, -64, slots, slots + 1, 64, 65, 1 << 32, -1 << 32, math.MaxInt64 - 1, math.MaxInt64, math.MinInt64, math.MinInt64 + 1}
}

func TestSlideConstants(t *testing.T) {
	if impl.MaxSlides != 1000 {
		t.Error("a constant is another one")
	}
}

func TestSlideTold(t *testing.T) {
	n := squareNet()
	alone := []impl.Lit{litOf(7, 0, 2, 2, 2, 0, 1)}
	for to := range int64(5) {
		holdSlide(t, "alone", n, alone, slideOf(7, to), toldLits(litOf(7, 0, 2, to, 2, 0, 1)))
	}
	lits := guardedLits()
	holdSlide(t, "down", n, lits, slideOf(30, 2), noLits(impl.ErrTaken))
	holdSlide(t, "up", n, lits, slideOf(30, 4), toldLits(lits[0], lits[1], lits[2], lits[3], lits[4], litOf(30, 2, 0, 4, 2, 2, 3)))
	holdSlide(t, "up by two", n, lits, slideOf(5, 3), toldLits(litOf(5, 3, 1, 3, 2, 4), lits[1], lits[2], lits[3], lits[4], lits[5]))
	holdSlide(t, "as far as may be", n, lits, slideOf(5, 4), toldLits(litOf(5, 3, 1, 4, 2, 4), lits[1], lits[2], lits[3], lits[4], lits[5]))
	holdSlide(t, "too far", n, lits, slideOf(5, 5), noLits(impl.ErrRange))
	holdSlide(t, "against another one", n, lits, slideOf(5, 0), noLits(impl.ErrTaken))
	for _, lit := range lits {
		holdSlide(t, "to where it is", n, lits, slideOf(lit.Id, lit.First), toldLits(lits...))
	}
	two := []impl.Lit{litOf(1, 0, 1, 2, 1, 0), litOf(2, 0, 2, 3, 1, 0, 1)}
	holdSlide(t, "over another one", n, two, slideOf(2, 0), noLits(impl.ErrTaken))
	holdSlide(t, "over another one, upwards", n, two, slideOf(1, 5), noLits(impl.ErrTaken))
	great := []impl.Lit{litOf(math.MaxInt64-1, 0, 1, 0, 1, 0), litOf(math.MaxInt64, 1, 0, 5, 1, 0)}
	holdSlid(t, "a great Id", n, great, slideOf(math.MaxInt64, 1))
	holdSlid(t, "a great Id", n, great, slideOf(math.MaxInt64-1, 4))
}

// TestSlideAlone: where no other light is, all that lies within the slots may be reached; the light's own slots are no hindrance.
func TestSlideAlone(t *testing.T) {
	for _, slots := range []int64{1, 2, 5, 64} {
		widths := []int64{1, 2, 3, 4, slots - 1, slots}
		for _, width := range widths {
			for _, first := range []int64{0, 1, 2, slots / 2, slots - width} {
				if width < 1 || first < 0 || first+width > slots {
					continue
				}
				n, lits := lineNet(slots), []impl.Lit{litOf(9, 1, 0, first, width, 0)}
				for to := int64(0); to+width <= slots; to++ {
					holdSlid(t, "alone", n, lits, slideOf(9, to))
				}
				for over := slots - width + 1; over <= slots+1; over++ {
					holdSlide(t, "over the edge", n, lits, slideOf(9, over), noLits(impl.ErrRange))
				}
				for _, to := range noSlots(slots) {
					holdSlide(t, "no slot", n, lits, slideOf(9, to), noLits(impl.ErrRange))
				}
			}
		}
	}
}

// TestSlideOverOneSlot: another light has one slot on one fibre; it counts just if it lies between, on the way or at its ends.
func TestSlideOverOneSlot(t *testing.T) {
	const slots, first = 9, 4
	n := rowNet(slots)
	ends := [][2]int64{{0, 1}, {1, 2}, {2, 3}, {0, 3}}
	for width := int64(1); width <= 3; width++ {
		for place, end := range ends {
			for taken := range int64(slots) {
				if place < 3 && taken >= first && taken < first+width {
					continue
				}
				for _, id := range []int64{3, 7} {
					other := litOf(id, end[0], end[1], taken, 1, int64(place))
					lits := byId([]impl.Lit{litOf(5, 0, 3, first, width, 0, 1, 2)}, other)
					for to := range int64(slots) {
						switch {
						case to > slots-width:
							holdSlide(t, "over the edge", n, lits, slideOf(5, to), noLits(impl.ErrRange))
						case place < 3 && taken < first && taken >= to || place < 3 && taken >= first+width && taken < to+width:
							holdSlide(t, "one slot", n, lits, slideOf(5, to), noLits(impl.ErrTaken))
						default:
							holdSlid(t, "one slot", n, lits, slideOf(5, to))
						}
					}
				}
			}
		}
	}
}

// TestSlideBetweenTwo: as far as the lights on both sides, each on another fibre of the path, and not further, though there is room behind them.
func TestSlideBetweenTwo(t *testing.T) {
	n := rowNet(12)
	lits := []impl.Lit{litOf(2, 2, 3, 2, 1, 2), litOf(4, 3, 0, 5, 2, 2, 1, 0), litOf(6, 1, 0, 9, 1, 0), litOf(8, 0, 3, 0, 12, 3)}
	for to := range int64(11) {
		if to >= 3 && to <= 7 {
			holdSlid(t, "between", n, lits, slideOf(4, to))
		} else {
			holdSlide(t, "beyond", n, lits, slideOf(4, to), noLits(impl.ErrTaken))
		}
	}
	for _, to := range []int64{-1, 11, 12, 13} {
		holdSlide(t, "no slot", n, lits, slideOf(4, to), noLits(impl.ErrRange))
	}
	holdSlide(t, "the full one", n, lits, slideOf(8, 0), toldLits(lits...))
	holdSlide(t, "the full one", n, lits, slideOf(8, 1), noLits(impl.ErrRange))
	holdSlide(t, "the full one", n, lits, slideOf(8, -1), noLits(impl.ErrRange))
}

func TestSlideOfNoLight(t *testing.T) {
	n, lits := squareNet(), guardedLits()
	for _, id := range noIds() {
		for _, to := range []int64{0, 3, -1, 6, 7, math.MaxInt64, math.MinInt64} {
			holdSlide(t, "no such Id", n, lits, slideOf(id, to), noLits(impl.ErrNone))
			holdSlide(t, "no light", n, nil, slideOf(id, to), noLits(impl.ErrNone))
			holdSlide(t, "no fibre", netOf(1, 1), []impl.Lit{}, slideOf(id, to), noLits(impl.ErrNone))
		}
	}
}

// TestSlideFaultsInTheirOrder: the lights' faults, then the Id, then the bounds, then the room.
func TestSlideFaultsInTheirOrder(t *testing.T) {
	for _, slide := range []impl.Slide{slideOf(3, 0), slideOf(5, 3), slideOf(900, 1), slideOf(900, 0), slideOf(900, 6), slideOf(900, -1), slideOf(4, 0), {}, slideOf(-1, -1)} {
		for what, lits := range wrongLits() {
			holdSlide(t, what, squareNet(), lits, slide, noLits(litsCodeByWords(squareNet(), lits)))
		}
		for what, wrong := range wrongNets() {
			for _, lits := range [][]impl.Lit{nil, threeLits(), thinLits(41)} {
				holdSlide(t, what, wrong, lits, slide, noLits(netCodeByWords(wrong)))
			}
		}
	}
	n, lits := squareNet(), threeLits()
	holdSlide(t, "no such Id, no slot", n, lits, slideOf(4, -1), noLits(impl.ErrNone))
	holdSlide(t, "below 0, over others", n, lits, slideOf(900, -1), noLits(impl.ErrRange))
	holdSlide(t, "the least, over others", n, lits, slideOf(900, math.MinInt64), noLits(impl.ErrRange))
	for _, to := range []int64{5, 6, 64, math.MaxInt64 - 1, math.MaxInt64} {
		holdSlide(t, "too far, over others", n, lits, slideOf(3, to), noLits(impl.ErrRange))
		holdSlide(t, "too far, over others", n, lits, slideOf(5, to), noLits(impl.ErrRange))
	}
	holdSlide(t, "just at the end, over others", n, lits, slideOf(3, 4), noLits(impl.ErrTaken))
	holdSlide(t, "at 0, over others", n, lits, slideOf(900, 0), noLits(impl.ErrTaken))
}

func TestSlideOfForty(t *testing.T) {
	n, lits := lineNet(64), thinLits(40)
	for at, lit := range lits {
		for _, to := range []int64{lit.First - 1, lit.First + 1, 0, 39, 40, 63} {
			want := slideByWords(n, lits, slideOf(lit.Id, to))
			if at < 39 && to != lit.First && want.Code == impl.OK {
				t.Errorf("light %d can slide to %d", lit.Id, to)
			}
			holdSlide(t, "forty", n, lits, slideOf(lit.Id, to), want)
		}
	}
	holdSlid(t, "the highest", n, lits, slideOf(lits[39].Id, 63))
}

// TestSlideByWords: all slots of all lights; what may be reached is reached a slot at a time, and back again.
func TestSlideByWords(t *testing.T) {
	draw := numbers{state: 2000}
	codes, jumps := map[int64]int{}, 0
	for range 60 {
		n := drawnNet(&draw, 2+draw.below(5), 1+draw.below(14), 2+int(draw.below(8)), 50)
		lits := drawnLits(&draw, n, 4+int(draw.below(14)), 4)
		for _, lit := range lits {
			for to := int64(-1); to <= n.Slots; to++ {
				slide := slideOf(lit.Id, to)
				want := slideByWords(n, lits, slide)
				codes[want.Code]++
				holdSlide(t, "drawn", n, lits, slide, want)
				if (slideByStep(n, lits, slide) == impl.OK) != (want.Code == impl.OK) {
					t.Errorf("step by step %v of %s is %d", slide, brief(lits), slideByStep(n, lits, slide))
				}
				if want.Code == impl.OK {
					holdSlide(t, "back", n, want.Lits, slideOf(lit.Id, lit.First), toldLits(lits...))
				} else if want.Code == impl.ErrTaken && litsCodeByWords(n, slidLits(lits, slide)) == impl.OK {
					jumps++
				}
			}
		}
	}
	if codes[impl.OK] < 300 || codes[impl.ErrRange] < 300 || codes[impl.ErrTaken] < 300 || jumps < 100 {
		t.Errorf("codes told: %v, %d of them with room at the end", codes, jumps)
	}
}

// TestSlideKeepsTheOrder: the lights that are told are right ones, in the order in which they were, and may slide on.
func TestSlideKeepsTheOrder(t *testing.T) {
	draw := numbers{state: 2001}
	n := drawnNet(&draw, 6, 20, 9, 50)
	lits := drawnLits(&draw, n, 40, 3)
	slid := 0
	for range 400 {
		slide := slideOf(lits[draw.below(int64(len(lits)))].Id, draw.below(20))
		got := impl.SlideTo(n, lits, slide)
		if got.Code != impl.OK {
			continue
		}
		sameOrder := slices.EqualFunc(got.Lits, lits, func(a impl.Lit, b impl.Lit) bool { return a.Id == b.Id })
		if code := impl.LitsFault(n, got.Lits); code != impl.OK || !sameOrder {
			t.Errorf("%v: the lights have code %d: %s", slide, code, brief(got.Lits))
		}
		lits = got.Lits
		slid++
	}
	if slid < 40 {
		t.Errorf("%d slides", slid)
	}
}
