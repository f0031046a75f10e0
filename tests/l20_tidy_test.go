package tests

import (
	"fmt"
	"math"
	"slices"
	"testing"

	"loop.example/g00049/impl"
)

func noSlides(code int64) impl.SlideResult {
	return impl.SlideResult{Code: code}
}

func toldSlides(lits []impl.Lit, slides ...impl.Slide) impl.SlideResult {
	return impl.SlideResult{Slides: slides, Lits: lits}
}

// tidyByWords goes through the lights again and again.
func tidyByWords(n impl.Net, lits []impl.Lit) impl.SlideResult {
	if code := litsCodeByWords(n, lits); code != impl.OK {
		return noSlides(code)
	}
	told := toldSlides(copyOfLits(lits))
	for {
		before := len(told.Slides)
		for i := range told.Lits {
			id, first := told.Lits[i].Id, told.Lits[i].First
			if to := lowestByWords(n, told.Lits, id); to < first {
				told.Slides = append(told.Slides, slideOf(id, to))
				told.Lits = slideByWords(n, told.Lits, slideOf(id, to)).Lits
			}
		}
		if len(told.Slides) == before {
			return told
		}
	}
}

func holdTidy(t *testing.T, what string, n impl.Net, lits []impl.Lit, want impl.SlideResult) {
	t.Helper()
	ask := func(a netArgs) impl.SlideResult { return impl.TidyNet(a.net, a.lits) }
	holdNet(t, what+", TidyNet", netArgs{net: n, lits: lits}, ask, want)
	if told := tidyByWords(n, lits); fmt.Sprint(told) != fmt.Sprint(want) {
		t.Errorf("%s: the words tell %s, not %s", what, brief(told), brief(want))
	}
}

// holdTidied goes along the slides: each is allowed by itself and lowers its light as far as may be, they end in the lights told, and there is nothing left to tidy.
func holdTidied(t *testing.T, n impl.Net, lits []impl.Lit) impl.SlideResult {
	t.Helper()
	got := impl.TidyNet(n, lits)
	now := copyOfLits(lits)
	for i, slide := range got.Slides {
		lit, _ := litById(now, slide.Id)
		next := impl.SlideTo(n, now, slide)
		if next.Code != impl.OK || slide.To >= lit.First || slide.To != impl.LowestSlide(n, now, slide.Id) {
			t.Errorf("slide %d, %v of %v, has code %d", i, slide, lit, next.Code)
		}
		if code := impl.LitsFault(n, next.Lits); code != impl.OK {
			t.Errorf("behind slide %d, %v, the lights have code %d", i, slide, code)
		}
		now = next.Lits
	}
	if got.Code != impl.OK || fmt.Sprint(now) != fmt.Sprint(got.Lits) {
		t.Errorf("code %d, the slides lead to %s, told: %s", got.Code, brief(now), brief(got.Lits))
	}
	holdNoneRises(t, n, lits, got.Lits)
	if again := impl.TidyNet(n, got.Lits); fmt.Sprint(again) != fmt.Sprint(toldSlides(got.Lits)) {
		t.Errorf("tidied again: %s, want no slide and %s", brief(again), brief(got.Lits))
	}
	return got
}

// holdNoneRises: all is as it was but for First, which may only be lower, and so the top and the holes.
func holdNoneRises(t *testing.T, n impl.Net, before []impl.Lit, behind []impl.Lit) {
	t.Helper()
	if len(before) != len(behind) {
		t.Errorf("%d lights were %d", len(behind), len(before))
		return
	}
	for i, lit := range behind {
		if lit.First > before[i].First {
			t.Errorf("light %v rises to %v", before[i], lit)
		}
		lit.First = before[i].First
		if fmt.Sprint(lit) != fmt.Sprint(before[i]) {
			t.Errorf("light %v is another one: %v", before[i], lit)
		}
		if impl.LowestSlide(n, behind, lit.Id) != behind[i].First {
			t.Errorf("light %v can still slide", behind[i])
		}
	}
	if impl.TopSlot(n, behind) > impl.TopSlot(n, before) || impl.HolesOf(n, behind) > impl.HolesOf(n, before) {
		t.Errorf("the top or the holes rise: %s, %s", brief(before), brief(behind))
	}
}

// stackOf has lights of one slot each on one fibre, of these Ids from the lowest on, each with a free slot below it.
func stackOf(ids ...int64) []impl.Lit {
	lits := []impl.Lit{}
	for i, id := range ids {
		lits = byId(lits, litOf(id, 0, 1, 2*int64(i)+1, 1, 0))
	}
	return lits
}

func TestTidyTold(t *testing.T) {
	three := netOf(3, 4, fibreOf(0, 1, 10), fibreOf(1, 2, 10), fibreOf(0, 2, 30))
	lits := []impl.Lit{litOf(1, 0, 1, 2, 1, 0), litOf(2, 0, 2, 3, 1, 0, 1)}
	holdTidy(t, "two", three, lits, toldSlides([]impl.Lit{litOf(1, 0, 1, 0, 1, 0), litOf(2, 0, 2, 1, 1, 0, 1)}, slideOf(1, 0), slideOf(2, 1)))
	n := squareNet()
	holdTidy(t, "nil", n, nil, toldSlides(nil))
	holdTidy(t, "none", n, []impl.Lit{}, toldSlides(nil))
	holdTidy(t, "no fibre", netOf(1, 1), nil, toldSlides(nil))
	holdTidy(t, "low already", n, threeLits(), toldSlides(threeLits()))
	holdTidy(t, "at 0", n, threeLits()[:2], toldSlides(threeLits()[:2]))
	holdTidy(t, "forty, low already", lineNet(64), thinLits(40), toldSlides(thinLits(40)))
	holdTidy(t, "as wide as may be", n, []impl.Lit{litOf(1, 0, 2, 0, 6, 0, 1)}, toldSlides([]impl.Lit{litOf(1, 0, 2, 0, 6, 0, 1)}))
	holdTidy(t, "alone", n, threeLits()[2:], toldSlides([]impl.Lit{litOf(900, 0, 3, 0, 4, 0, 4)}, slideOf(900, 0)))
	holdTidy(t, "by one slot", n, []impl.Lit{litOf(7, 0, 2, 1, 5, 0, 1)}, toldSlides([]impl.Lit{litOf(7, 0, 2, 0, 5, 0, 1)}, slideOf(7, 0)))
	holdTidy(t, "one upon the other", n, guardedLits(), toldSlides(guardedLits()))
	without := slices.Delete(guardedLits(), 3, 4)
	holdTidy(t, "one of them gone", n, without, toldSlides(slidLits(without, slideOf(30, 2)), slideOf(30, 2)))
}

// TestTidyRoundByRound: a light that another one of a greater Id stops slides the next time.
func TestTidyRoundByRound(t *testing.T) {
	n := lineNet(8)
	holdTidy(t, "one round", n, stackOf(1, 2, 3), toldSlides([]impl.Lit{litOf(1, 0, 1, 0, 1, 0), litOf(2, 0, 1, 1, 1, 0), litOf(3, 0, 1, 2, 1, 0)}, slideOf(1, 0), slideOf(2, 1), slideOf(3, 2)))
	holdTidy(t, "two rounds", n, stackOf(5, 2), toldSlides([]impl.Lit{litOf(2, 0, 1, 1, 1, 0), litOf(5, 0, 1, 0, 1, 0)}, slideOf(2, 2), slideOf(5, 0), slideOf(2, 1)))
	holdTidy(t, "three rounds", n, stackOf(9, 4, 2), toldSlides(
		[]impl.Lit{litOf(2, 0, 1, 2, 1, 0), litOf(4, 0, 1, 1, 1, 0), litOf(9, 0, 1, 0, 1, 0)},
		slideOf(2, 4), slideOf(4, 2), slideOf(9, 0), slideOf(2, 3), slideOf(4, 1), slideOf(2, 2)))
	holdTidy(t, "mixed", n, stackOf(4, 9, 2), toldSlides(
		[]impl.Lit{litOf(2, 0, 1, 2, 1, 0), litOf(4, 0, 1, 0, 1, 0), litOf(9, 0, 1, 1, 1, 0)},
		slideOf(2, 4), slideOf(4, 0), slideOf(9, 1), slideOf(2, 2)))
	near := []impl.Lit{litOf(1, 0, 1, 2, 1, 0), litOf(2, 0, 1, 1, 1, 0)}
	holdTidy(t, "only the second time", n, near, toldSlides([]impl.Lit{litOf(1, 0, 1, 1, 1, 0), litOf(2, 0, 1, 0, 1, 0)}, slideOf(2, 0), slideOf(1, 1)))
	wide := []impl.Lit{litOf(1, 0, 1, 5, 3, 0), litOf(2, 1, 0, 2, 3, 0)}
	holdTidy(t, "wide ones", n, wide, toldSlides([]impl.Lit{litOf(1, 0, 1, 3, 3, 0), litOf(2, 1, 0, 0, 3, 0)}, slideOf(2, 0), slideOf(1, 3)))
	great := []impl.Lit{litOf(math.MaxInt64-1, 0, 1, 7, 1, 0), litOf(math.MaxInt64, 0, 1, 1, 1, 0)}
	holdTidy(t, "great Ids", n, great, toldSlides(
		[]impl.Lit{litOf(math.MaxInt64-1, 0, 1, 1, 1, 0), litOf(math.MaxInt64, 0, 1, 0, 1, 0)},
		slideOf(math.MaxInt64-1, 2), slideOf(math.MaxInt64, 0), slideOf(math.MaxInt64-1, 1)))
}

// TestTidyStopsAtALight: a light does not get to the room below another one, though it would fit there.
func TestTidyStopsAtALight(t *testing.T) {
	n := rowNet(10)
	pinned := []impl.Lit{litOf(1, 0, 1, 0, 5, 0), litOf(3, 0, 2, 5, 1, 0, 1), litOf(6, 1, 3, 9, 1, 1, 2)}
	holdTidy(t, "room below", n, pinned, toldSlides(slidLits(pinned, slideOf(6, 6)), slideOf(6, 6)))
	unpinned := append(copyOfLits(pinned[1:]), litOf(8, 1, 2, 0, 2, 1))
	holdTidy(t, "one below the other", n, unpinned, toldSlides(slidLits(slidLits(unpinned, slideOf(3, 2)), slideOf(6, 3)), slideOf(3, 2), slideOf(6, 3)))
	apart := []impl.Lit{litOf(1, 0, 1, 4, 2, 0), litOf(2, 1, 2, 7, 2, 1), litOf(3, 2, 3, 1, 2, 2), litOf(4, 3, 0, 8, 1, 3)}
	want := []impl.Lit{litOf(1, 0, 1, 0, 2, 0), litOf(2, 1, 2, 0, 2, 1), litOf(3, 2, 3, 0, 2, 2), litOf(4, 3, 0, 0, 1, 3)}
	holdTidy(t, "nothing in common", n, apart, toldSlides(want, slideOf(1, 0), slideOf(2, 0), slideOf(3, 0), slideOf(4, 0)))
}

func TestTidyOfFaults(t *testing.T) {
	for what, lits := range wrongLits() {
		holdTidy(t, what, squareNet(), lits, noSlides(litsCodeByWords(squareNet(), lits)))
	}
	for what, wrong := range wrongNets() {
		for _, lits := range [][]impl.Lit{nil, threeLits(), threeLits()[2:], thinLits(41)} {
			holdTidy(t, what, wrong, lits, noSlides(netCodeByWords(wrong)))
		}
	}
	high := []impl.Lit{litOf(1, 0, 1, 3, 1, 0), litOf(2, 0, 1, 5, 2, 0)}
	holdTidy(t, "the second one wrong", squareNet(), high, noSlides(impl.ErrRange))
}

// TestTidyOfStacks: lights of one fibre in all orders of their Ids end one upon the other.
func TestTidyOfStacks(t *testing.T) {
	draw := numbers{state: 2020}
	for count := range 33 {
		for range 3 {
			ids := []int64{}
			for i := range count {
				ids = append(ids, int64(3*i+1))
			}
			ids = shuffled(&draw, ids)
			n, lits := lineNet(64), stackOf(ids...)
			got := holdTidied(t, n, lits)
			holdTidy(t, "a stack", n, lits, tidyByWords(n, lits))
			for _, lit := range got.Lits {
				if want := int64(slices.Index(ids, lit.Id)); lit.First != want {
					t.Errorf("%v: light %d ends at %d, want %d", ids, lit.Id, lit.First, want)
				}
			}
			if impl.TopSlot(n, got.Lits) != int64(count) || impl.HolesOf(n, got.Lits) != 0 {
				t.Errorf("%v: the top is %d, with %d holes", ids, impl.TopSlot(n, got.Lits), impl.HolesOf(n, got.Lits))
			}
		}
	}
}

// tallLits need nearly as many slides as any: each light lies a slot above another one of a greater Id, thirty-two deep.
func tallLits() (impl.Net, []impl.Lit) {
	n := netOf(8, 64)
	for node := range int64(7) {
		n.Fibres = append(n.Fibres, fibreOf(node, node+1, 1))
	}
	n.Fibres = append(n.Fibres, fibreOf(0, 7, 1))
	lits := []impl.Lit{}
	for place := range int64(8) {
		lits = append(lits, litOf(place+1, n.Fibres[place].A, n.Fibres[place].B, 63, 1, place))
	}
	lits = append(lits, litOf(9, 0, 4, 61, 1, 0, 1, 2, 3), litOf(10, 4, 0, 61, 1, 4, 5, 6, 7), litOf(11, 0, 7, 59, 1, 0, 1, 2, 3, 4, 5, 6))
	for i := range int64(29) {
		lits = append(lits, litOf(12+i, 0, 1, 57-2*i, 1, 0))
	}
	return n, lits
}

func TestTidyOfTallLights(t *testing.T) {
	n, lits := tallLits()
	got := holdTidied(t, n, lits)
	// A light with so many below it slides so many times and once more: eight of 32, two of 31, and one each from 30 down.
	if want := 8*32 + 2*31 + 30*31/2; len(got.Slides) != want || len(lits) != impl.MaxLits {
		t.Errorf("%d slides of %d lights, want %d", len(got.Slides), len(lits), want)
	}
	if top := impl.TopSlot(n, got.Lits); top != 32 {
		t.Errorf("the top is %d", top)
	}
	holdTidy(t, "tall", n, lits, tidyByWords(n, lits))
}

// litsAnywhere are all lights of one Id on the first two fibres of the row, up to so wide.
func litsAnywhere(id int64, slots int64, wide int64) []impl.Lit {
	lits := []impl.Lit{}
	for width := int64(1); width <= wide; width++ {
		for first := int64(0); first+width <= slots; first++ {
			lits = append(lits, litOf(id, 0, 1, first, width, 0), litOf(id, 2, 1, first, width, 1), litOf(id, 0, 2, first, width, 0, 1))
		}
	}
	return lits
}

// TestTidyOfAllSmallNets: three lights in all ways on two fibres.
func TestTidyOfAllSmallNets(t *testing.T) {
	n := netOf(3, 5, fibreOf(0, 1, 1), fibreOf(1, 2, 1))
	held, rounds := 0, 0
	for _, a := range litsAnywhere(1, 5, 2) {
		for _, b := range litsAnywhere(2, 5, 2) {
			for _, c := range litsAnywhere(3, 5, 1) {
				lits := []impl.Lit{a, b, c}
				if litsCodeByWords(n, lits) != impl.OK {
					continue
				}
				held++
				got, want := impl.TidyNet(n, lits), tidyByWords(n, lits)
				if fmt.Sprint(got) != fmt.Sprint(want) {
					t.Errorf("TidyNet of %s: %s, want %s", brief(lits), brief(got), brief(want))
				}
				if !slices.IsSortedFunc(want.Slides, func(a impl.Slide, b impl.Slide) int { return int(a.Id - b.Id) }) {
					rounds++
				}
			}
		}
	}
	if held < 2000 || rounds < 200 {
		t.Errorf("%d held, %d of them went round again", held, rounds)
	}
}

func TestTidyByWords(t *testing.T) {
	draw := numbers{state: 2021}
	slides, rounds := 0, 0
	for range 150 {
		n := drawnNet(&draw, 2+draw.below(7), 2+draw.below(30), 2+int(draw.below(13)), 50)
		lits := drawnLits(&draw, n, 3+int(draw.below(40)), 4)
		ids := []int64{}
		for i := range lits {
			ids = append(ids, lits[i].Id)
		}
		for i, id := range shuffled(&draw, ids) {
			lits[i].Id = id
		}
		lits = byId(nil, lits...)
		holdTidy(t, "drawn", n, lits, tidyByWords(n, lits))
		got := holdTidied(t, n, lits)
		slides += len(got.Slides)
		for i := range got.Slides {
			if i > 0 && got.Slides[i].Id < got.Slides[i-1].Id {
				rounds++
			}
		}
	}
	if slides < 500 || rounds < 50 {
		t.Errorf("%d slides, %d times round again", slides, rounds)
	}
}

// TestTidyMakesRoom: a light that found no room gets some.
func TestTidyMakesRoom(t *testing.T) {
	n := squareNet()
	lits := []impl.Lit{litOf(1, 0, 1, 1, 1, 0), litOf(2, 0, 2, 3, 1, 0, 1)}
	need := needOf(3, 0, 2, 4, 30)
	holdUp(t, "ahead of tidying", n, lits, need, noLits(impl.ErrTaken))
	tidied := impl.TidyNet(n, lits).Lits
	holdUp(t, "behind tidying", n, tidied, need, toldLits(tidied[0], tidied[1], litOf(3, 0, 2, 2, 4, 0, 1)))
}
