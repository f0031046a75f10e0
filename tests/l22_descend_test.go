package tests

import (
	"fmt"
	"math"
	"slices"
	"testing"

	"loop.example/g00049/impl"
)

func noPath(code int64) impl.PathResult {
	return impl.PathResult{Code: code}
}

func toldPath(merits []int64, points ...[]int64) impl.PathResult {
	return impl.PathResult{Points: points, Merits: merits}
}

// beginningOf is the path up to so many of its points.
func beginningOf(path impl.PathResult, points int) impl.PathResult {
	return toldPath(path.Merits[:points], path.Points[:points]...)
}

func changedPath(path impl.PathResult, change func(*impl.PathResult)) impl.PathResult {
	path.Points, path.Merits = copyOfRows(path.Points), slices.Clone(path.Merits)
	change(&path)
	return path
}

func lastMerit(path impl.PathResult) int64 {
	return path.Merits[len(path.Merits)-1]
}

// lookedAt is the first of the two points beside this one that is right and better.
func lookedAt(list []impl.Aim, here []int64, dim int, step int64) ([]int64, bool) {
	for _, by := range []int64{step, -step} {
		point := slices.Clone(here)
		point[dim] += by
		merit := aimMeritByWords(list, point)
		if merit.Code == impl.OK && merit.Merit < aimMeritByWords(list, here).Merit {
			return point, true
		}
	}
	return nil, false
}

func pathByWords(list []impl.Aim, start []int64, step int64, rounds int64) impl.PathResult {
	if code := aimMeritByWords(list, start).Code; code != impl.OK {
		return noPath(code)
	}
	if !isInside(step, 1, 1000) || !isInside(rounds, 0, 200) {
		return noPath(impl.ErrRange)
	}
	points := [][]int64{start}
	for ; rounds > 0 && step > 0; rounds-- {
		ahead := len(points)
		for dim := range start {
			if point, better := lookedAt(list, points[len(points)-1], dim, step); better {
				points = append(points, point)
			}
		}
		if len(points) == ahead {
			step /= 2
		}
	}
	path := toldPath(nil, points...)
	for _, point := range points {
		path.Merits = append(path.Merits, aimMeritByWords(list, point).Merit)
	}
	return path
}

func holdPath(t *testing.T, what string, list []impl.Aim, start []int64, step int64, rounds int64, want impl.PathResult) {
	t.Helper()
	ask := func(a meritArgs) impl.PathResult { return impl.Descend(a.aims, a.point, step, rounds) }
	holdCall(t, fmt.Sprint(what, ", Descend by ", step, " and ", rounds), meritArgs{aims: list, point: start}, ask, want)
	if told := pathByWords(list, start, step, rounds); fmt.Sprint(told) != fmt.Sprint(want) {
		t.Errorf("%s: the words tell %s of %s at %v, not %s", what, brief(told), brief(list), start, brief(want))
	}
	holdProof(t, what, list, want, want.Code == impl.OK)
}

func holdProof(t *testing.T, what string, list []impl.Aim, path impl.PathResult, want bool) {
	t.Helper()
	ask := func(a meritArgs) bool { return impl.CheckDescent(a.aims, a.path) }
	holdCall(t, what+", CheckDescent", meritArgs{aims: list, path: path}, ask, want)
}

func wrongStrides() []int64 {
	return outsideOf(1, 1000)
}

func wrongRounds() []int64 {
	return outsideOf(0, 200)
}

func TestDescentTold(t *testing.T) {
	aims := []impl.Aim{aimOf(5, 1, 0), aimOf(-6, 0, 2)}
	whole := toldPath([]int64{61, 37, 5, 4, 0}, []int64{0, 0}, []int64{4, 0}, []int64{4, -4}, []int64{5, -4}, []int64{5, -3})
	holdPath(t, "the shared test", aims, []int64{0, 0}, 4, 50, whole)
	for rounds, points := range []int{1, 3, 3, 3, 5, 5, 5} {
		holdPath(t, "round by round", aims, []int64{0, 0}, 4, int64(rounds), beginningOf(whole, points))
	}
	holdPath(t, "down", []impl.Aim{aimOf(-7, 1)}, []int64{2}, 3, 9, toldPath([]int64{81, 36, 9, 0}, []int64{2}, []int64{-1}, []int64{-4}, []int64{-7}))
	holdPath(t, "three dimensions", []impl.Aim{aimOf(3, 1, 1, 1)}, []int64{0, 0, 0}, 2, 9, toldPath([]int64{9, 1, 0}, []int64{0, 0, 0}, []int64{2, 0, 0}, []int64{3, 0, 0}))
}

func TestDescentWithoutARound(t *testing.T) {
	for _, step := range []int64{1, 2, 1000} {
		holdPath(t, "no round", []impl.Aim{aimOf(9, 1, 2)}, []int64{0, 1}, step, 0, toldPath([]int64{49}, []int64{0, 1}))
		holdPath(t, "no round and no aim", nil, []int64{3}, step, 0, toldPath([]int64{0}, []int64{3}))
	}
}

// TestDescentFromTheBest: the start stays, whatever the step.
func TestDescentFromTheBest(t *testing.T) {
	for _, rounds := range []int64{0, 1, 2, 10, 11, 199, 200} {
		for _, step := range []int64{1, 2, 3, 999, 1000} {
			holdPath(t, "met", []impl.Aim{aimOf(5, 1, 0), aimOf(-6, 0, 2)}, []int64{5, -3}, step, rounds, toldPath([]int64{0}, []int64{5, -3}))
			holdPath(t, "nearest", []impl.Aim{aimOf(1, 3), aimOf(2, 3)}, []int64{0}, step, rounds, toldPath([]int64{5}, []int64{0}))
			holdPath(t, "no aim", nil, []int64{7, 7, 7}, step, rounds, toldPath([]int64{0}, []int64{7, 7, 7}))
			holdPath(t, "rows of 0", []impl.Aim{aimOf(3, 0, 0)}, []int64{7, 7}, step, rounds, toldPath([]int64{9}, []int64{7, 7}))
		}
	}
}

// TestDescentHalvesItsStep: 1000, 500, 250, 125, 62, 31, 15, 7, 3, 1, which is ten rounds.
func TestDescentHalvesItsStep(t *testing.T) {
	for _, want := range []int64{1, -1} {
		aims := []impl.Aim{aimOf(want, 1)}
		for _, rounds := range []int64{0, 1, 5, 8, 9} {
			holdPath(t, "not yet", aims, []int64{0}, 1000, rounds, toldPath([]int64{1}, []int64{0}))
		}
		for _, rounds := range []int64{10, 11, 12, 200} {
			holdPath(t, "the last step", aims, []int64{0}, 1000, rounds, toldPath([]int64{1, 0}, []int64{0}, []int64{want}))
		}
	}
	seven := []impl.Aim{aimOf(2, 1)}
	holdPath(t, "7, 3, 1", seven, []int64{0}, 7, 1, toldPath([]int64{4}, []int64{0}))
	holdPath(t, "7, 3, 1", seven, []int64{0}, 7, 2, toldPath([]int64{4, 1}, []int64{0}, []int64{3}))
	holdPath(t, "7, 3, 1", seven, []int64{0}, 7, 3, toldPath([]int64{4, 1}, []int64{0}, []int64{3}))
	holdPath(t, "7, 3, 1", seven, []int64{0}, 7, 4, toldPath([]int64{4, 1, 0}, []int64{0}, []int64{3}, []int64{2}))
}

// TestDescentHalvesBehindARoundWithoutAMove: a round in which one dimension moved leaves the step as it is.
func TestDescentHalvesBehindARoundWithoutAMove(t *testing.T) {
	whole := toldPath([]int64{100, 36, 4, 0}, []int64{0}, []int64{4}, []int64{8}, []int64{10})
	for rounds, points := range []int{1, 2, 3, 3, 4, 4, 4, 4} {
		holdPath(t, "one dimension", []impl.Aim{aimOf(10, 1)}, []int64{0}, 4, int64(rounds), beginningOf(whole, points))
	}
	first := toldPath([]int64{164, 100, 68, 64}, []int64{0, 0}, []int64{4, 0}, []int64{8, 0}, []int64{10, 0})
	for rounds, points := range []int{1, 2, 3, 3, 4, 4} {
		holdPath(t, "the first one moves", []impl.Aim{aimOf(10, 1, 0), aimOf(8, 0, 0)}, []int64{0, 0}, 4, int64(rounds), beginningOf(first, points))
	}
	last := toldPath([]int64{164, 100, 68, 64}, []int64{0, 0}, []int64{0, 4}, []int64{0, 8}, []int64{0, 10})
	for rounds, points := range []int{1, 2, 3, 3, 4, 4} {
		holdPath(t, "the last one moves", []impl.Aim{aimOf(10, 0, 1), aimOf(8, 0, 0)}, []int64{0, 0}, 4, int64(rounds), beginningOf(last, points))
	}
}

// TestDescentTies: a point of the same Merit is not taken.
func TestDescentTies(t *testing.T) {
	holdPath(t, "as good above", []impl.Aim{aimOf(1, 1)}, []int64{0}, 2, 1, toldPath([]int64{1}, []int64{0}))
	holdPath(t, "as good below", []impl.Aim{aimOf(-1, 1)}, []int64{0}, 2, 1, toldPath([]int64{1}, []int64{0}))
	holdPath(t, "as good above, then half", []impl.Aim{aimOf(1, 1)}, []int64{0}, 2, 2, toldPath([]int64{1, 0}, []int64{0}, []int64{1}))
	holdPath(t, "as good in a dimension that does nothing", []impl.Aim{aimOf(4, 0, 1)}, []int64{0, 0}, 2, 9, toldPath([]int64{16, 4, 0}, []int64{0, 0}, []int64{0, 2}, []int64{0, 4}))
	holdPath(t, "as good in two dimensions", []impl.Aim{aimOf(2, 1, 1)}, []int64{0, 0}, 4, 1, toldPath([]int64{4}, []int64{0, 0}))
	holdPath(t, "an aim that rises as another falls", []impl.Aim{aimOf(0, 1), aimOf(6, 1)}, []int64{2}, 2, 1, toldPath([]int64{20}, []int64{2}))
	holdPath(t, "between two aims", []impl.Aim{aimOf(0, 1), aimOf(6, 1)}, []int64{2}, 1, 9, toldPath([]int64{20, 18}, []int64{2}, []int64{3}))
}

// TestNotBothSidesAreBetter: a sum of squares that fell on both sides would have to bend down; so where step more and step less are both looked at, one at most is taken.
func TestNotBothSidesAreBetter(t *testing.T) {
	draw := numbers{state: 2220}
	sides := [3]int{}
	for range 2000 {
		dims := 1 + draw.below(4)
		list, here := drawnAims(&draw, 1+draw.below(4), dims, 4, 9), drawnPoint(&draw, dims, 6)
		dim, step := draw.below(dims), 1+draw.below(5)
		better := 0
		for _, by := range []int64{step, -step} {
			point := slices.Clone(here)
			point[dim] += by
			if impl.MeritAt(list, point).Merit < impl.MeritAt(list, here).Merit {
				better++
			}
		}
		sides[better]++
	}
	if sides[0] < 300 || sides[1] < 300 || sides[2] != 0 {
		t.Error(sides)
	}
}

// TestDescentAtTheBound: what lies beyond is passed over, and the other side is looked at all the same.
func TestDescentAtTheBound(t *testing.T) {
	for _, sign := range []int64{1, -1} {
		far := []impl.Aim{aimOf(20000*sign, 1)}
		holdPath(t, "at the bound", far, []int64{10000 * sign}, 8, 200, toldPath([]int64{100000000}, []int64{10000 * sign}))
		holdPath(t, "up to the bound", far, []int64{9998 * sign}, 2, 1, toldPath([]int64{100040004, 100000000}, []int64{9998 * sign}, []int64{10000 * sign}))
		holdPath(t, "not beyond it", far, []int64{9999 * sign}, 2, 1, toldPath([]int64{100020001}, []int64{9999 * sign}))
		holdPath(t, "not beyond it, but nearer", far, []int64{9999 * sign}, 2, 9, toldPath([]int64{100020001, 100000000}, []int64{9999 * sign}, []int64{10000 * sign}))
		near := []impl.Aim{aimOf(9996*sign, 1)}
		holdPath(t, "the other side", near, []int64{10000 * sign}, 4, 1, toldPath([]int64{16, 0}, []int64{10000 * sign}, []int64{9996 * sign}))
		holdPath(t, "the other side, by a lesser step", near, []int64{10000 * sign}, 16, 9, toldPath([]int64{16, 0}, []int64{10000 * sign}, []int64{9996 * sign}))
		both := []impl.Aim{aimOf(20000*sign, 1, 0), aimOf(3, 0, 1)}
		holdPath(t, "the next dimension", both, []int64{10000 * sign, 0}, 3, 9, toldPath([]int64{100000009, 100000000}, []int64{10000 * sign, 0}, []int64{10000 * sign, 3}))
	}
}

// TestDescentMovesAheadOfTheNextLook: the next dimension is looked at from the point that was taken.
func TestDescentMovesAheadOfTheNextLook(t *testing.T) {
	holdPath(t, "both", []impl.Aim{aimOf(4, 1, 1)}, []int64{0, 0}, 2, 1, toldPath([]int64{16, 4, 0}, []int64{0, 0}, []int64{2, 0}, []int64{2, 2}))
	holdPath(t, "the first alone", []impl.Aim{aimOf(2, 1, 1)}, []int64{0, 0}, 2, 9, toldPath([]int64{4, 0}, []int64{0, 0}, []int64{2, 0}))
	holdPath(t, "against each other", []impl.Aim{aimOf(2, 1, -1), aimOf(9, 0, 1)}, []int64{0, 7}, 2, 1, toldPath([]int64{85, 53, 41}, []int64{0, 7}, []int64{2, 7}, []int64{2, 5}))
	holdPath(t, "one move a dimension and round", []impl.Aim{aimOf(9, 1, 0)}, []int64{0, 0}, 1, 2, toldPath([]int64{81, 64, 49}, []int64{0, 0}, []int64{1, 0}, []int64{2, 0}))
}

func TestDescentUsesUpItsRounds(t *testing.T) {
	aims := []impl.Aim{aimOf(300, 1)}
	whole := toldPath(nil)
	for place := range int64(201) {
		whole.Points = append(whole.Points, []int64{place})
		whole.Merits = append(whole.Merits, (300-place)*(300-place))
	}
	for _, rounds := range []int64{0, 1, 2, 100, 199, 200} {
		holdPath(t, "far away", aims, []int64{0}, 1, rounds, beginningOf(whole, int(rounds)+1))
	}
	for _, rounds := range []int64{4, 5, 9} {
		points := [][]int64{{0}, {1000}, {2000}, {3000}, {4000}}
		holdPath(t, "just enough", []impl.Aim{aimOf(4000, 1)}, []int64{0}, 1000, rounds, toldPath([]int64{16000000, 9000000, 4000000, 1000000, 0}, points...))
	}
	ten := impl.Descend(evenAims(20, 10), pointOf(10, 10000), 1, 200)
	holdPath(t, "ten dimensions", evenAims(20, 10), pointOf(10, 10000), 1, 200, ten)
	if len(ten.Points) != 2001 {
		t.Error(len(ten.Points))
	}
}

func TestDescentFaults(t *testing.T) {
	aims, start := []impl.Aim{aimOf(5, 1, 0), aimOf(-6, 0, 2)}, []int64{0, 0}
	for _, step := range insideOf(1, 1000) {
		for _, rounds := range insideOf(0, 200) {
			holdPath(t, "right", aims, start, step, rounds, pathByWords(aims, start, step, rounds))
		}
		for _, rounds := range wrongRounds() {
			holdPath(t, "wrong rounds", aims, start, step, rounds, noPath(impl.ErrRange))
		}
	}
	for _, step := range wrongStrides() {
		for _, rounds := range []int64{0, 1, 200, -1, 201} {
			holdPath(t, "a wrong step", aims, start, step, rounds, noPath(impl.ErrRange))
			holdPath(t, "a wrong step without aims", nil, start, step, rounds, noPath(impl.ErrRange))
		}
	}
	for _, number := range outsideOf(-10000, 10000) {
		holdPath(t, "a wrong start", aims, []int64{0, number}, 1, 1, noPath(impl.ErrRange))
		holdPath(t, "a wrong start", nil, []int64{number}, 1, 1, noPath(impl.ErrRange))
	}
}

// TestDescentFaultsInTheirOrder: those of MeritAt, then the step and the rounds.
func TestDescentFaultsInTheirOrder(t *testing.T) {
	for _, pair := range [][2]int64{{1, 0}, {0, 1}, {1001, 201}, {1, -1}, {math.MinInt64, math.MaxInt64}} {
		step, rounds := pair[0], pair[1]
		for _, dims := range []int64{1, 3, 10} {
			for what, list := range wrongAims(dims) {
				for _, number := range []int64{0, 10001} {
					holdPath(t, what, list, pointOf(dims, number), step, rounds, noPath(aimsCodeByWords(list, dims)))
				}
			}
		}
		holdPath(t, "no number", evenAims(3, 3), nil, step, rounds, noPath(impl.ErrForm))
		holdPath(t, "no number", nil, []int64{}, step, rounds, noPath(impl.ErrForm))
		holdPath(t, "eleven numbers", nil, pointOf(11, 0), step, rounds, noPath(impl.ErrForm))
		holdPath(t, "a number too few", evenAims(3, 3), pointOf(2, 0), step, rounds, noPath(impl.ErrForm))
		holdPath(t, "a number too many", evenAims(3, 3), pointOf(4, 10001), step, rounds, noPath(impl.ErrForm))
		holdPath(t, "a wrong start", evenAims(3, 3), pointOf(3, -10001), step, rounds, noPath(impl.ErrRange))
	}
}

// drawnDescent has aims that one may come near to, a start and a step.
func drawnDescent(draw *numbers) ([]impl.Aim, []int64, int64) {
	dims := 1 + draw.below(10)
	list := drawnAims(draw, draw.below(21), dims, []int64{2, 9, 1000}[draw.below(3)], []int64{20, 3000, 100000}[draw.below(3)])
	return list, drawnPoint(draw, dims, []int64{4, 300, 10000}[draw.below(3)]), 1 + draw.below([]int64{4, 60, 1000}[draw.below(3)])
}

func TestDescentByWords(t *testing.T) {
	draw := numbers{state: 2221}
	points := 0
	for range 120 {
		list, start, step := drawnDescent(&draw)
		rounds := draw.below([]int64{20, 201}[draw.below(2)])
		want := pathByWords(list, start, step, rounds)
		holdPath(t, "drawn", list, start, step, rounds, want)
		points += len(want.Points)
	}
	if points < 2000 {
		t.Error(points)
	}
}

// TestDescentNeverGoesUp: nor does it lose what it has when there are more rounds.
func TestDescentNeverGoesUp(t *testing.T) {
	draw := numbers{state: 2222}
	for range 150 {
		list, start, step := drawnDescent(&draw)
		whole := impl.Descend(list, start, step, 200)
		for i := 1; i < len(whole.Merits); i++ {
			if whole.Merits[i] >= whole.Merits[i-1] {
				t.Errorf("%s from %v by %d goes up: %s", brief(list), start, step, brief(whole))
			}
		}
		for _, rounds := range []int64{0, 1, 2, 5, 20, 100} {
			part := impl.Descend(list, start, step, rounds)
			if fmt.Sprint(part) != fmt.Sprint(beginningOf(whole, len(part.Points))) {
				t.Errorf("%s from %v by %d: %s in %d rounds, %s in all", brief(list), start, step, brief(part), rounds, brief(whole))
			}
		}
	}
}

// provenPath is one that Descend tells, of five points, with its aims.
func provenPath() ([]impl.Aim, impl.PathResult) {
	aims := []impl.Aim{aimOf(5, 1, 0), aimOf(-6, 0, 2)}
	return aims, impl.Descend(aims, []int64{0, 0}, 4, 50)
}

func TestProofOfEachPath(t *testing.T) {
	draw := numbers{state: 2223}
	for range 100 {
		list, start, step := drawnDescent(&draw)
		path := impl.Descend(list, start, step, draw.below(60))
		holdProof(t, "drawn", list, path, true)
		holdProof(t, "its first point", list, beginningOf(path, 1), true)
		holdProof(t, "its first half", list, beginningOf(path, (len(path.Points)+1)/2), true)
		holdProof(t, "but its first point", list, toldPath(path.Merits[1:], path.Points[1:]...), len(path.Points) > 1)
	}
	for dims := int64(1); dims <= 10; dims++ {
		holdProof(t, "no aim", nil, toldPath([]int64{0}, pointOf(dims, 10000)), true)
	}
}

// TestProofOfOtherPaths: points need not be near to each other, as long as each one is better.
func TestProofOfOtherPaths(t *testing.T) {
	aims, path := provenPath()
	for i := range path.Points {
		left := changedPath(path, func(p *impl.PathResult) {
			p.Points, p.Merits = slices.Delete(p.Points, i, i+1), slices.Delete(p.Merits, i, i+1)
		})
		holdProof(t, "a point left out", aims, left, true)
	}
	holdProof(t, "a jump", aims, toldPath([]int64{500300045, 0}, []int64{-9998, 10000}, []int64{5, -3}), true)
}

func TestProofNeedsOK(t *testing.T) {
	aims, path := provenPath()
	for _, code := range []int64{1, 2, 3, 4, 5, 6, 7, 8, -1, 1 << 32, math.MinInt64, math.MaxInt64} {
		holdProof(t, "a code", aims, changedPath(path, func(p *impl.PathResult) { p.Code = code }), false)
		holdProof(t, "a code alone", aims, noPath(code), false)
	}
}

func TestProofNeedsAsManyMerits(t *testing.T) {
	aims, path := provenPath()
	holdProof(t, "nothing", aims, impl.PathResult{}, false)
	holdProof(t, "nothing, and no aim", nil, impl.PathResult{}, false)
	holdProof(t, "empty lists", aims, toldPath([]int64{}, [][]int64{}...), false)
	holdProof(t, "a merit alone", aims, toldPath([]int64{61}), false)
	holdProof(t, "a point alone", aims, toldPath(nil, []int64{0, 0}), false)
	holdProof(t, "a point alone, and no aim", nil, toldPath(nil, []int64{0, 0}), false)
	holdProof(t, "a merit too many", aims, changedPath(path, func(p *impl.PathResult) { p.Merits = append(p.Merits, -1) }), false)
	holdProof(t, "a merit too few", aims, changedPath(path, func(p *impl.PathResult) { p.Merits = p.Merits[:4] }), false)
	holdProof(t, "a point too many", aims, changedPath(path, func(p *impl.PathResult) { p.Points = append(p.Points, []int64{5, -3}) }), false)
	holdProof(t, "a point too few", aims, changedPath(path, func(p *impl.PathResult) { p.Points = p.Points[:4] }), false)
	holdProof(t, "no merits", aims, changedPath(path, func(p *impl.PathResult) { p.Merits = nil }), false)
	holdProof(t, "no points", aims, changedPath(path, func(p *impl.PathResult) { p.Points = nil }), false)
}

func TestProofNeedsEachMerit(t *testing.T) {
	aims, path := provenPath()
	for i := range path.Merits {
		for _, by := range []int64{1, -1, 3, -3, 1 << 32, -1 << 32, math.MinInt64} {
			holdProof(t, "another merit", aims, changedPath(path, func(p *impl.PathResult) { p.Merits[i] += by }), false)
			holdProof(t, "another merit alone", aims, toldPath([]int64{path.Merits[i] + by}, path.Points[i]), false)
		}
		holdProof(t, "another point", aims, changedPath(path, func(p *impl.PathResult) { p.Points[i] = []int64{9, 9} }), false)
		holdProof(t, "the same number beside a code", aims, changedPath(path, func(p *impl.PathResult) { p.Merits[i] = 0; p.Points[i] = nil }), false)
	}
	holdProof(t, "other aims", []impl.Aim{aims[1], aims[1]}, path, false)
	holdProof(t, "fewer aims", aims[:1], path, false)
	holdProof(t, "no aim", nil, path, false)
}

// TestProofNeedsPointsThatAreRight: what MeritAt refuses proves nothing, and no code counts as a Merit of 0.
func TestProofNeedsPointsThatAreRight(t *testing.T) {
	aims, path := provenPath()
	last := len(path.Points) - 1
	for _, point := range [][]int64{nil, {}, {5}, {5, -3, 0}, {5, 10001}, {-10001, -3}, {math.MinInt64, math.MaxInt64}, pointOf(11, 0)} {
		for i := range path.Points {
			holdProof(t, "a wrong point", aims, changedPath(path, func(p *impl.PathResult) { p.Points[i] = point }), false)
		}
		holdProof(t, "a wrong last point", aims, changedPath(path, func(p *impl.PathResult) { p.Points[last], p.Merits[last] = point, 0 }), false)
		holdProof(t, "a wrong point alone", aims, toldPath([]int64{0}, point), false)
		holdProof(t, "a wrong point alone, of other dims", aims, toldPath([]int64{25}, point), false)
	}
	beyond := []impl.Aim{aimOf(10001, 1)}
	holdProof(t, "at the bound", beyond, toldPath([]int64{4, 1}, []int64{9999}, []int64{10000}), true)
	holdProof(t, "beyond the bound", beyond, toldPath([]int64{4, 1, 0}, []int64{9999}, []int64{10000}, []int64{10001}), false)
	holdProof(t, "beyond the bound alone", beyond, toldPath([]int64{0}, []int64{10001}), false)
	for what, list := range wrongAims(2) {
		holdProof(t, what, list, toldPath([]int64{0}, []int64{0, 0}), false)
		holdProof(t, what, list, path, false)
	}
	holdProof(t, "no aim and no number", nil, toldPath([]int64{0}, nil), false)
	holdProof(t, "no aim and eleven numbers", nil, toldPath([]int64{0}, pointOf(11, 0)), false)
	holdProof(t, "no aim and a number beyond", nil, toldPath([]int64{0}, []int64{-10001}), false)
}

// TestProofNeedsEachPointToBeBetter: all Merits are those of their points here.
func TestProofNeedsEachPointToBeBetter(t *testing.T) {
	aims, path := provenPath()
	for i := range path.Points {
		twice := changedPath(path, func(p *impl.PathResult) {
			p.Points, p.Merits = slices.Insert(p.Points, i, slices.Clone(p.Points[i])), slices.Insert(p.Merits, i, p.Merits[i])
		})
		holdProof(t, "a point twice", aims, twice, false)
	}
	for i := range path.Points[1:] {
		up := changedPath(path, func(p *impl.PathResult) {
			p.Points[i], p.Points[i+1] = p.Points[i+1], p.Points[i]
			p.Merits[i], p.Merits[i+1] = p.Merits[i+1], p.Merits[i]
		})
		holdProof(t, "two changed about", aims, up, false)
	}
	one := []impl.Aim{aimOf(0, 1)}
	for _, places := range [][]int64{{-3, 3, 1}, {3, 1, -1, 0}, {3, 2, -2}, {1, 3, 2, 0}, {5, 1, 2, 0}, {5, 3, 4}, {0, 0}, {0, 1}} {
		path := toldPath(nil)
		for _, place := range places {
			path.Points, path.Merits = append(path.Points, []int64{place}), append(path.Merits, place*place)
		}
		holdProof(t, "alike or up", one, path, false)
	}
	holdProof(t, "no aim, two points", nil, toldPath([]int64{0, 0}, []int64{1}, []int64{2}), false)
	holdProof(t, "no aim, points of unlike lengths", nil, toldPath([]int64{0, 0}, []int64{1}, []int64{2, 3}), false)
}
