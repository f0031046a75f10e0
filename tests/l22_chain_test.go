package tests

import (
	"fmt"
	"math"
	"slices"
	"testing"

	"loop.example/g00049/impl"
)

// meritArgs are what a call is given of spans, of aims, of a point, its slack and of a path.
type meritArgs struct {
	spans []impl.Span
	more  []impl.Span
	aims  []impl.Aim
	point []int64
	slack []int64
	path  impl.PathResult
}

func (a meritArgs) withRoom() meritArgs {
	a.spans = roomy(a.spans, spanOf(9, 9, 9, 9))
	a.more = roomy(a.more, spanOf(8, 8, 8, 8))
	a.aims = roomy(a.aims, aimOf(9, 9, 9))
	for i := range a.aims {
		a.aims[i].Row = roomy(a.aims[i].Row, 7)
	}
	a.point, a.slack = roomy(a.point, 6), roomy(a.slack, 5)
	a.path.Points, a.path.Merits = roomyRows(a.path.Points), roomy(a.path.Merits, 4)
	return a
}

func (a meritArgs) picture() string {
	rows, lengths := [][]int64{}, []int{}
	for _, aim := range a.aims[:cap(a.aims)] {
		rows = append(rows, aim.Row[:cap(aim.Row)], []int64{aim.Want})
		lengths = append(lengths, len(aim.Row))
	}
	for _, point := range a.path.Points {
		lengths = append(lengths, len(point))
	}
	numbers := [][]int64{a.point[:cap(a.point)], a.slack[:cap(a.slack)], a.path.Merits[:cap(a.path.Merits)]}
	return fmt.Sprint(a.spans[:cap(a.spans)], a.more[:cap(a.more)], rows, lengths, numbers, allOfRows(a.path.Points))
}

// insideOf are numbers within the bounds, both of these, too.
func insideOf(least int64, most int64) []int64 {
	return []int64{least, least + 1, least + (most-least)/2, most - 1, most}
}

// outsideOf are numbers beyond the bounds; of some the lower half alone is not.
func outsideOf(least int64, most int64) []int64 {
	return []int64{least - 1, least - 2, most + 1, most + 2, least + 1<<32, most - 1<<32, math.MinInt64, math.MinInt64 + 1, math.MaxInt64 - 1, math.MaxInt64}
}

func isInside(number int64, least int64, most int64) bool {
	return number >= least && number <= most
}

func spanOf(km int64, loss int64, gain int64, tilt int64) impl.Span {
	return impl.Span{Km: km, Loss: loss, Gain: gain, Tilt: tilt}
}

// drawnChain has Gains that make up for what is lost, but for so much either way.
func drawnChain(draw *numbers, count int64, spread int64) []impl.Span {
	list := []impl.Span{}
	for range count {
		km, loss := 1+draw.below(100), draw.below(300)
		list = append(list, spanOf(km, loss, km*loss+draw.below(2*spread+1)-spread, draw.below(20001)-10000))
	}
	return list
}

func isSpanByWords(s impl.Span) bool {
	return isInside(s.Km, 1, 1000) && isInside(s.Loss, 0, 1000) && isInside(s.Gain, -100000, 100000) && isInside(s.Tilt, -10000, 10000)
}

func noLevels(code int64) impl.ChainResult {
	return impl.ChainResult{Code: code}
}

func toldLevels(least int64, tilt int64, levels ...int64) impl.ChainResult {
	return impl.ChainResult{Levels: levels, Least: least, Tilt: tilt}
}

// levelsByWords reckons each level from the start on.
func levelsByWords(list []impl.Span, start int64) impl.ChainResult {
	if len(list) > 100 {
		return noLevels(impl.ErrMany)
	}
	for _, span := range list {
		if !isSpanByWords(span) {
			return noLevels(impl.ErrRange)
		}
	}
	if !isInside(start, -100000, 100000) {
		return noLevels(impl.ErrRange)
	}
	levels, anywhere, tilt := []int64{start}, []int64{start}, int64(0)
	for i, last := range list {
		level := start
		for _, span := range list[:i+1] {
			level += span.Gain - span.Km*span.Loss
		}
		levels = append(levels, level)
		anywhere = append(anywhere, level, level-last.Gain)
		tilt += last.Tilt
	}
	return toldLevels(slices.Min(anywhere), tilt, levels...)
}

func holdLevels(t *testing.T, what string, list []impl.Span, start int64, want impl.ChainResult) {
	t.Helper()
	ask := func(a meritArgs) impl.ChainResult { return impl.ChainLevels(a.spans, start) }
	holdCall(t, fmt.Sprint(what, ", ChainLevels from ", start), meritArgs{spans: list}, ask, want)
	if told := levelsByWords(list, start); fmt.Sprint(told) != fmt.Sprint(want) {
		t.Errorf("%s: the words tell %s of %s from %d, not %s", what, brief(told), brief(list), start, brief(want))
	}
}

// holdMargin holds the margin against the words, too: the chain's code, then the floor's.
func holdMargin(t *testing.T, what string, list []impl.Span, start int64, floor int64, want impl.MeritInt) {
	t.Helper()
	ask := func(a meritArgs) impl.MeritInt { return impl.MarginOf(a.spans, start, floor) }
	holdCall(t, fmt.Sprint(what, ", MarginOf from ", start, " to ", floor), meritArgs{spans: list}, ask, want)
	chain := levelsByWords(list, start)
	told := impl.MeritInt{Merit: chain.Least - floor}
	if chain.Code != impl.OK {
		told = noMerit(chain.Code)
	} else if !isInside(floor, -1000000000, 1000000000) {
		told = noMerit(impl.ErrRange)
	}
	if told != want {
		t.Errorf("%s: the words tell %v of %s from %d to %d, not %v", what, told, brief(list), start, floor, want)
	}
}

func holdJoined(t *testing.T, what string, a []impl.Span, b []impl.Span, want ...impl.Span) {
	t.Helper()
	ask := func(a meritArgs) []impl.Span { return impl.JoinChains(a.spans, a.more) }
	holdCall(t, what+", JoinChains", meritArgs{spans: a, more: b}, ask, want)
}

// spanNumber is one of a span's numbers with its bounds.
type spanNumber struct {
	what  string
	least int64
	most  int64
	put   func(*impl.Span, int64)
}

func spanNumbers() []spanNumber {
	return []spanNumber{
		{"Km", 1, 1000, func(s *impl.Span, n int64) { s.Km = n }},
		{"Loss", 0, 1000, func(s *impl.Span, n int64) { s.Loss = n }},
		{"Gain", -100000, 100000, func(s *impl.Span, n int64) { s.Gain = n }},
		{"Tilt", -10000, 10000, func(s *impl.Span, n int64) { s.Tilt = n }},
	}
}

// wrongSpans have one number each that is not right.
func wrongSpans() []impl.Span {
	list := []impl.Span{{}}
	for _, one := range spanNumbers() {
		for _, number := range outsideOf(one.least, one.most) {
			span := spanOf(10, 200, 2000, -5)
			one.put(&span, number)
			list = append(list, span)
		}
	}
	return list
}

func noMerit(code int64) impl.MeritInt {
	return impl.MeritInt{Code: code}
}

func toldMerit(merit int64) impl.MeritInt {
	return impl.MeritInt{Merit: merit}
}

func TestMeritConstants(t *testing.T) {
	if impl.MaxSpans != 100 || impl.MaxDims != 10 || impl.MaxRounds != 200 {
		t.Error("a constant is another one")
	}
}

func TestLevelsTold(t *testing.T) {
	ten := spanOf(10, 200, 2000, 0)
	holdLevels(t, "the shared test", []impl.Span{ten}, 0, toldLevels(-2000, 0, 0, 0))
	holdLevels(t, "two", []impl.Span{ten, spanOf(5, 300, 1000, 7)}, 100, toldLevels(-1900, 7, 100, 100, -400))
	holdLevels(t, "nil", nil, 5, toldLevels(5, 0, 5))
	holdLevels(t, "none", []impl.Span{}, -5, toldLevels(-5, 0, -5))
	holdLevels(t, "the most that is lost", slices.Repeat([]impl.Span{spanOf(1000, 1000, 0, -10000)}, 2), -100000, toldLevels(-2100000, -20000, -100000, -1100000, -2100000))
	holdLevels(t, "the most that is won", slices.Repeat([]impl.Span{spanOf(1, 0, 100000, 10000)}, 2), 100000, toldLevels(100000, 20000, 100000, 200000, 300000))
}

func TestLeastLevel(t *testing.T) {
	rise, fall := spanOf(1, 0, 50, 0), spanOf(1, 0, -50, 0)
	holdLevels(t, "the start", []impl.Span{rise}, 7, toldLevels(7, 0, 7, 57))
	holdLevels(t, "the start, come to again", []impl.Span{rise, fall, rise}, 7, toldLevels(7, 0, 7, 57, 7, 57))
	holdLevels(t, "behind the first span", []impl.Span{fall, rise}, 7, toldLevels(-43, 0, 7, -43, 7))
	holdLevels(t, "behind a middle span, with a Gain below 0", []impl.Span{rise, spanOf(10, 10, -30, 0), spanOf(2, 5, 90, 0)}, 0, toldLevels(-90, 0, 0, 50, -80, 0))
	holdLevels(t, "behind the last span", []impl.Span{rise, spanOf(10, 10, -30, 0)}, 0, toldLevels(-80, 0, 0, 50, -80))
	holdLevels(t, "ahead of the first Gain alone", []impl.Span{spanOf(3, 100, 300, 0), rise}, 20, toldLevels(-280, 0, 20, 20, 70))
	holdLevels(t, "ahead of a middle Gain alone", []impl.Span{fall, spanOf(3, 100, 300, 0), rise}, 20, toldLevels(-330, 0, 20, -30, -30, 20))
	holdLevels(t, "ahead of the last Gain alone", []impl.Span{fall, rise, spanOf(3, 100, 9000, 0)}, 20, toldLevels(-280, 0, 20, -30, 20, 8720))
	holdLevels(t, "ahead of a Gain of 0 and behind it", []impl.Span{rise, spanOf(3, 100, 0, 0)}, 20, toldLevels(-230, 0, 20, 70, -230))
	holdLevels(t, "not ahead of a Gain below 0", []impl.Span{spanOf(3, 100, -1, 0)}, 20, toldLevels(-281, 0, 20, -281))
	holdLevels(t, "far above 0", []impl.Span{spanOf(1, 1, 5, 0)}, 900, toldLevels(899, 0, 900, 904))
}

func TestTiltOfAll(t *testing.T) {
	for _, tilts := range [][]int64{{3}, {-3}, {3, -3}, {3, -5, 1}, {-10000, 10000, -10000}, {0, 0, 9}} {
		list, levels, sum := []impl.Span{}, []int64{4}, int64(0)
		for _, tilt := range tilts {
			list, levels, sum = append(list, spanOf(1, 0, 0, tilt)), append(levels, 4), sum+tilt
		}
		holdLevels(t, "tilts", list, 4, toldLevels(4, sum, levels...))
	}
}

func TestLevelsOfMany(t *testing.T) {
	for _, count := range []int{1, 2, 99, 100} {
		list := slices.Repeat([]impl.Span{spanOf(1000, 1000, 0, 10000)}, count)
		levels := []int64{100000}
		for i := range int64(count) {
			levels = append(levels, 100000-1000000*(i+1))
		}
		holdLevels(t, "long spans", list, 100000, toldLevels(levels[count], 10000*int64(count), levels...))
		list = slices.Repeat([]impl.Span{spanOf(3, 7, 20, -1)}, count)
		holdLevels(t, "short spans", list, 3, levelsByWords(list, 3))
	}
	for _, count := range []int{101, 102, 200, 357} {
		list := slices.Repeat([]impl.Span{spanOf(3, 7, 20, -1)}, count)
		for _, start := range []int64{0, 100001, math.MinInt64} {
			holdLevels(t, "too many", list, start, noLevels(impl.ErrMany))
			for _, place := range []int{0, 100, count - 1} {
				wrong := slices.Clone(list)
				wrong[place].Km = 0
				holdLevels(t, "too many, one wrong", wrong, start, noLevels(impl.ErrMany))
			}
		}
	}
}

// TestEachNumberOfASpan: at its bounds and beyond, whichever span it is.
func TestEachNumberOfASpan(t *testing.T) {
	for _, one := range spanNumbers() {
		for _, places := range [][2]int{{1, 0}, {3, 0}, {3, 1}, {3, 2}, {100, 0}, {100, 99}} {
			count, place := places[0], places[1]
			list := slices.Repeat([]impl.Span{spanOf(10, 200, 1500, -5)}, count)
			for _, number := range insideOf(one.least, one.most) {
				one.put(&list[place], number)
				holdLevels(t, one.what, list, 9, levelsByWords(list, 9))
				if code := impl.ChainLevels(list, 9).Code; code != impl.OK {
					t.Errorf("%s of %d has code %d", one.what, number, code)
				}
			}
			for _, number := range outsideOf(one.least, one.most) {
				one.put(&list[place], number)
				holdLevels(t, one.what, list, 9, noLevels(impl.ErrRange))
				holdLevels(t, one.what+" and the start", list, 100001, noLevels(impl.ErrRange))
				holdMargin(t, one.what, list, 9, 0, noMerit(impl.ErrRange))
			}
		}
	}
}

func TestLevelsFromStarts(t *testing.T) {
	for _, list := range [][]impl.Span{nil, {spanOf(10, 200, 1500, -5)}, {spanOf(1, 0, -9, 3), spanOf(7, 7, 7, 7)}} {
		for _, start := range insideOf(-100000, 100000) {
			holdLevels(t, "right", list, start, levelsByWords(list, start))
			if levels := impl.ChainLevels(list, start).Levels; len(levels) != len(list)+1 || levels[0] != start {
				t.Errorf("from %d: levels %v", start, levels)
			}
		}
		for _, start := range outsideOf(-100000, 100000) {
			holdLevels(t, "wrong", list, start, noLevels(impl.ErrRange))
			for _, floor := range []int64{0, 1000000001, math.MinInt64} {
				holdMargin(t, "a wrong start", list, start, floor, noMerit(impl.ErrRange))
			}
		}
	}
}

func TestMarginTold(t *testing.T) {
	list := []impl.Span{spanOf(10, 200, 2000, 4)}
	holdMargin(t, "below the least", list, 0, -2500, toldMerit(500))
	holdMargin(t, "at the least", list, 0, -2000, toldMerit(0))
	holdMargin(t, "above the least", list, 0, -1999, toldMerit(-1))
	holdMargin(t, "above 0", list, 0, 100, toldMerit(-2100))
	holdMargin(t, "no span", nil, 30, 10, toldMerit(20))
	holdMargin(t, "no span, and the start below 0", []impl.Span{}, -30, 10, toldMerit(-40))
	for _, floor := range insideOf(-1000000000, 1000000000) {
		holdMargin(t, "floors", list, 0, floor, toldMerit(-2000-floor))
		holdMargin(t, "floors, no span", nil, 100000, floor, toldMerit(100000-floor))
	}
	long := slices.Repeat([]impl.Span{spanOf(1000, 1000, -100000, 0)}, 100)
	holdMargin(t, "the least there can be", long, -100000, 1000000000, toldMerit(-1110100000))
	holdMargin(t, "the most there can be", nil, 100000, -1000000000, toldMerit(1000100000))
}

func TestMarginFaults(t *testing.T) {
	list := []impl.Span{spanOf(10, 200, 2000, 4)}
	for _, floor := range outsideOf(-1000000000, 1000000000) {
		holdMargin(t, "a wrong floor", list, 0, floor, noMerit(impl.ErrRange))
		holdMargin(t, "a wrong floor, no span", nil, 0, floor, noMerit(impl.ErrRange))
		holdMargin(t, "a wrong floor, too many", slices.Repeat(list, 101), 0, floor, noMerit(impl.ErrMany))
		holdMargin(t, "a wrong floor, a wrong span", []impl.Span{list[0], {}}, 0, floor, noMerit(impl.ErrRange))
	}
	for _, floor := range []int64{0, -1000000000, 1000000000} {
		holdMargin(t, "too many", slices.Repeat(list, 101), 0, floor, noMerit(impl.ErrMany))
		holdMargin(t, "a wrong span", []impl.Span{list[0], {}}, 0, floor, noMerit(impl.ErrRange))
	}
}

func TestJoinedTold(t *testing.T) {
	a, b, c := spanOf(1, 2, 3, 4), spanOf(5, 6, 7, 8), spanOf(9, 10, 11, 12)
	holdJoined(t, "nil and nil", nil, nil)
	holdJoined(t, "nil and none", nil, []impl.Span{})
	holdJoined(t, "none and nil", []impl.Span{}, nil)
	holdJoined(t, "nil and one", nil, []impl.Span{a}, a)
	holdJoined(t, "one and nil", []impl.Span{a}, nil, a)
	holdJoined(t, "none and two", []impl.Span{}, []impl.Span{a, b}, a, b)
	holdJoined(t, "two and none", []impl.Span{a, b}, []impl.Span{}, a, b)
	holdJoined(t, "one and two", []impl.Span{a}, []impl.Span{b, c}, a, b, c)
	holdJoined(t, "two and one", []impl.Span{c, b}, []impl.Span{a}, c, b, a)
	holdJoined(t, "the same", []impl.Span{a, b}, []impl.Span{a, b}, a, b, a, b)
}

// TestJoinedWithItself: a list on both sides is still none of the answer's.
func TestJoinedWithItself(t *testing.T) {
	list := roomy([]impl.Span{spanOf(1, 2, 3, 4), spanOf(5, 6, 7, 8)}, spanOf(9, 9, 9, 9))
	joined := impl.JoinChains(list, list)
	apart(t, [][]impl.Span{joined}, [][]impl.Span{list})
	apart(t, [][]impl.Span{impl.JoinChains(list, nil), impl.JoinChains(nil, list), impl.JoinChains(list[:0], list[:0])}, [][]impl.Span{list})
	if len(joined) != 4 {
		t.Error(joined)
	}
}

// TestJoinedWrong: lists that are too long or not right are joined all the same.
func TestJoinedWrong(t *testing.T) {
	wrong := wrongSpans()
	holdJoined(t, "not right", wrong, wrong[:3], slices.Concat(wrong, wrong[:3])...)
	right := slices.Repeat([]impl.Span{spanOf(3, 7, 20, -1)}, 400)
	for _, counts := range [][2]int{{100, 1}, {1, 100}, {101, 0}, {0, 101}, {50, 51}, {100, 100}, {200, 200}} {
		a, b := right[:counts[0]], right[:counts[1]]
		holdJoined(t, "too long", a, b, right[:len(a)+len(b)]...)
		if code := impl.ChainLevels(impl.JoinChains(a, b), 0).Code; code != impl.ErrMany {
			t.Errorf("%d and %d spans: code %d", len(a), len(b), code)
		}
	}
	holdJoined(t, "too long and not right", right[:150], wrong, slices.Concat(right[:150], wrong)...)
}

// TestJoinedChainsJoin: the second chain begins at the level where the first one ends.
func TestJoinedChainsJoin(t *testing.T) {
	draw := numbers{state: 2201}
	joined, leasts := 0, [2]int{}
	for range 400 {
		a, b := drawnChain(&draw, draw.below(51), 9000), drawnChain(&draw, draw.below(51), 9000)
		start := draw.below(200001) - 100000
		first, whole := impl.ChainLevels(a, start), impl.ChainLevels(impl.JoinChains(a, b), start)
		between := first.Levels[len(a)]
		if !isInside(between, -100000, 100000) {
			continue
		}
		joined++
		second := impl.ChainLevels(b, between)
		want := toldLevels(min(first.Least, second.Least), first.Tilt+second.Tilt, append(slices.Clone(first.Levels), second.Levels[1:]...)...)
		if fmt.Sprint(whole) != fmt.Sprint(want) {
			t.Errorf("%s and %s from %d: %s, want %s", brief(a), brief(b), start, brief(whole), brief(want))
		}
		if first.Least < second.Least {
			leasts[0]++
		} else if second.Least < first.Least {
			leasts[1]++
		}
	}
	if joined < 100 || min(leasts[0], leasts[1]) < 30 {
		t.Error(joined, leasts)
	}
}

func TestLevelsByWords(t *testing.T) {
	draw := numbers{state: 2202}
	for range 300 {
		list := drawnChain(&draw, draw.below(101), []int64{100, 9000, 70000}[draw.below(3)])
		start, floor := draw.below(200001)-100000, draw.below(2000001)-1000000
		want := levelsByWords(list, start)
		holdLevels(t, "drawn", list, start, want)
		holdMargin(t, "drawn", list, start, floor, toldMerit(want.Least-floor))
	}
}
