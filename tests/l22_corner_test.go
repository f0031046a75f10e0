package tests

import (
	"fmt"
	"math"
	"slices"
	"testing"

	"loop.example/g00049/impl"
)

// cornersOf are all points of which each number lies its slack below the point's or above it.
func cornersOf(point []int64, slack []int64) [][]int64 {
	corners := [][]int64{{}}
	for i, number := range point {
		next := [][]int64{}
		for _, corner := range corners {
			next = append(next, append(slices.Clone(corner), number-slack[i]), append(slices.Clone(corner), number+slack[i]))
		}
		corners = next
	}
	return corners
}

// pointsWithin are all points of which no number lies further from the point's than its slack.
func pointsWithin(point []int64, slack []int64) [][]int64 {
	points := [][]int64{{}}
	for i, number := range point {
		next := [][]int64{}
		for _, ahead := range points {
			for by := -slack[i]; by <= slack[i]; by++ {
				next = append(next, append(slices.Clone(ahead), number+by))
			}
		}
		points = next
	}
	return points
}

// worstByWords is the greatest size of what the aims miss at any of the points.
func worstByWords(list []impl.Aim, points [][]int64) int64 {
	sizes := []int64{0}
	for _, aim := range list {
		for _, point := range points {
			miss := rowByWords(aim, point) - aim.Want
			sizes = append(sizes, miss, -miss)
		}
	}
	return slices.Max(sizes)
}

func slackCodeByWords(list []impl.Aim, point []int64, slack []int64) int64 {
	if code := aimMeritByWords(list, point).Code; code != impl.OK {
		return code
	}
	if len(slack) != len(point) {
		return impl.ErrForm
	}
	for _, number := range slack {
		if !isInside(number, 0, 1000) {
			return impl.ErrRange
		}
	}
	return impl.OK
}

func cornerByWords(list []impl.Aim, point []int64, slack []int64) impl.MeritInt {
	if code := slackCodeByWords(list, point, slack); code != impl.OK {
		return noMerit(code)
	}
	return toldMerit(worstByWords(list, cornersOf(point, slack)))
}

func holdCorner(t *testing.T, what string, list []impl.Aim, point []int64, slack []int64, want impl.MeritInt) {
	t.Helper()
	ask := func(a meritArgs) impl.MeritInt { return impl.WorstCorner(a.aims, a.point, a.slack) }
	holdCall(t, what+", WorstCorner", meritArgs{aims: list, point: point, slack: slack}, ask, want)
	if told := cornerByWords(list, point, slack); told != want {
		t.Errorf("%s: the words tell %v of %s at %v by %v, not %v", what, told, brief(list), point, slack, want)
	}
}

// wrongSlacks are of a point of so many dimensions, with their codes.
func wrongSlacks(dims int64) map[int64][][]int64 {
	wrong := map[int64][][]int64{impl.ErrForm: {pointOf(dims-1, 1), pointOf(dims+1, 1), pointOf(dims-1, -1), pointOf(dims+1, 1001), pointOf(dims+256, 0)}}
	for _, number := range outsideOf(0, 1000) {
		for at := range dims {
			slack := pointOf(dims, 1)
			slack[at] = number
			wrong[impl.ErrRange] = append(wrong[impl.ErrRange], slack)
		}
	}
	return wrong
}

// holdTolerance asks both calls that are given slack for a code that both tell, TrialsOf with arguments that are right or not.
func holdTolerance(t *testing.T, what string, list []impl.Aim, point []int64, slack []int64, code int64) {
	t.Helper()
	holdCorner(t, what, list, point, slack, noMerit(code))
	for _, drawing := range [][2]int64{{7, 1}, {7, 100}, {-1, 1}, {7, 0}, {impl.CoinPrime, 101}} {
		holdTrials(t, what, list, point, slack, drawing[0], drawing[1], noMerit(code))
	}
}

func TestCornerTold(t *testing.T) {
	aims := []impl.Aim{aimOf(5, 1, 0), aimOf(-6, 0, 2)}
	holdCorner(t, "the shared test", aims, []int64{5, -3}, []int64{1, 2}, toldMerit(4))
	holdCorner(t, "above", aims, []int64{7, -3}, []int64{1, 0}, toldMerit(3))
	holdCorner(t, "below", aims, []int64{3, -3}, []int64{1, 0}, toldMerit(3))
	holdCorner(t, "the second aim", aims, []int64{5, 4}, []int64{1, 1}, toldMerit(16))
	holdCorner(t, "sums below 0", aims, []int64{5, -10}, []int64{1, 1}, toldMerit(16))
	holdCorner(t, "numbers against each other", []impl.Aim{aimOf(0, 3, -4)}, []int64{2, 1}, []int64{5, 6}, toldMerit(41))
	holdCorner(t, "numbers below 0", []impl.Aim{aimOf(1, -3, -4)}, []int64{0, 0}, []int64{5, 6}, toldMerit(40))
	for _, slack := range []int64{0, 1, 1000} {
		holdCorner(t, "no aim", nil, []int64{4, 5}, []int64{slack, slack}, toldMerit(0))
		holdCorner(t, "no aim", []impl.Aim{}, []int64{10000}, []int64{slack}, toldMerit(0))
		holdCorner(t, "a row of 0", []impl.Aim{aimOf(-9, 0)}, []int64{10000}, []int64{slack}, toldMerit(9))
	}
}

func TestCornerWithoutSlack(t *testing.T) {
	draw := numbers{state: 2240}
	for range 50 {
		dims := 1 + draw.below(10)
		list, point := drawnAims(&draw, 1+draw.below(20), dims, 1000, 100000), drawnPoint(&draw, dims, 10000)
		worst := worstByWords(list, [][]int64{point})
		holdCorner(t, "no slack", list, point, pointOf(dims, 0), toldMerit(worst))
		holdTrials(t, "no slack", list, point, pointOf(dims, 0), draw.below(impl.CoinPrime), 1+draw.below(100), toldMerit(worst))
	}
}

// TestCornersBeyondTheBounds: a point at the bounds has corners where MeritAt tells nothing, and these count, too.
func TestCornersBeyondTheBounds(t *testing.T) {
	for _, sign := range []int64{1, -1} {
		holdCorner(t, "one dimension", []impl.Aim{aimOf(0, 1)}, []int64{10000 * sign}, []int64{1000}, toldMerit(11000))
		holdCorner(t, "one dimension, by 1", []impl.Aim{aimOf(10000*sign, 1)}, []int64{10000 * sign}, []int64{1}, toldMerit(1))
		holdCorner(t, "two dimensions", []impl.Aim{aimOf(0, 2, -3)}, []int64{10000 * sign, -10000 * sign}, []int64{7, 9}, toldMerit(50041))
		for _, turned := range []int64{1, -1} {
			list := slices.Repeat([]impl.Aim{aimOf(-100000*sign*turned, pointOf(10, 1000*turned)...)}, 20)
			holdCorner(t, "the greatest", list, pointOf(10, 10000*sign), pointOf(10, 1000), toldMerit(110100000))
		}
	}
}

func TestSlackAtTheBounds(t *testing.T) {
	for _, dims := range []int64{1, 2, 9} {
		list, point := evenAims(7, dims), pointOf(dims, -4)
		for at := range dims {
			slack := pointOf(dims, 3)
			for _, number := range insideOf(0, 1000) {
				slack[at] = number
				want := cornerByWords(list, point, slack)
				if want.Code != impl.OK {
					t.Errorf("code %d by %v", want.Code, slack)
				}
				holdCorner(t, "slack", list, point, slack, want)
				holdTrials(t, "slack", list, point, slack, 8, 30, trialsByWords(list, point, slack, 8, 30))
			}
		}
		for code, slacks := range wrongSlacks(dims) {
			for _, slack := range slacks {
				holdTolerance(t, "wrong slack", list, point, slack, code)
				holdTolerance(t, "wrong slack without aims", nil, point, slack, code)
			}
		}
		holdTolerance(t, "nil", list, point, nil, impl.ErrForm)
		holdTolerance(t, "none", list, point, []int64{}, impl.ErrForm)
	}
}

// TestToleranceFaultsInTheirOrder: those of MeritAt, then how long the slack is, then its numbers, and then what is drawn.
func TestToleranceFaultsInTheirOrder(t *testing.T) {
	for _, dims := range []int64{1, 2, 10} {
		slacks := [][]int64{nil, pointOf(dims, 1), pointOf(dims+1, 1), pointOf(dims, 1001), pointOf(dims+1, -1)}
		for _, slack := range slacks {
			for what, list := range wrongAims(dims) {
				holdTolerance(t, what, list, pointOf(dims, 0), slack, aimsCodeByWords(list, dims))
				holdTolerance(t, what+", a wrong point", list, pointOf(dims, 10001), slack, aimsCodeByWords(list, dims))
			}
			for _, number := range outsideOf(-10000, 10000) {
				holdTolerance(t, "a wrong point", evenAims(3, dims), pointOf(dims, number), slack, impl.ErrRange)
				holdTolerance(t, "a wrong point without aims", nil, pointOf(dims, number), slack, impl.ErrRange)
			}
			holdTolerance(t, "no number", evenAims(3, dims), nil, slack, impl.ErrForm)
			holdTolerance(t, "eleven numbers", nil, pointOf(11, 10001), slack, impl.ErrForm)
			holdTolerance(t, "a number too many", evenAims(3, dims), pointOf(dims+1, 0), slack, impl.ErrForm)
		}
	}
	holdTolerance(t, "no number and no slack", nil, nil, nil, impl.ErrForm)
	holdTolerance(t, "too long, and beyond", evenAims(3, 2), pointOf(2, 0), []int64{0, 0, 1001}, impl.ErrForm)
	holdTolerance(t, "too short, and beyond", evenAims(3, 2), pointOf(2, 0), []int64{math.MinInt64}, impl.ErrForm)
}

func TestCornerByWords(t *testing.T) {
	draw := numbers{state: 2241}
	for range 150 {
		dims := 1 + draw.below(7)
		list := drawnAims(&draw, draw.below(21), dims, []int64{3, 1000}[draw.below(2)], []int64{20, 100000}[draw.below(2)])
		point, slack := drawnPoint(&draw, dims, []int64{9, 10000}[draw.below(2)]), []int64{}
		for range dims {
			slack = append(slack, draw.below([]int64{4, 1001}[draw.below(2)]))
		}
		holdCorner(t, "drawn", list, point, slack, cornerByWords(list, point, slack))
	}
	for range 4 {
		list, point := drawnAims(&draw, 20, 10, 1000, 100000), drawnPoint(&draw, 10, 10000)
		slack := startsByWords(10, draw.below(impl.CoinPrime), 1)[0]
		for i := range slack {
			slack[i] += 100
		}
		holdCorner(t, "ten dimensions", list, point, slack, cornerByWords(list, point, slack))
	}
}

// TestWorstCornerIsTheWorstOfAllPoints: no point between the corners is worse.
func TestWorstCornerIsTheWorstOfAllPoints(t *testing.T) {
	draw := numbers{state: 2242}
	for range 200 {
		dims := 1 + draw.below(4)
		list, point := drawnAims(&draw, 1+draw.below(5), dims, 5, 30), drawnPoint(&draw, dims, 6)
		slack := []int64{}
		for range dims {
			slack = append(slack, draw.below(4))
		}
		if worst := worstByWords(list, pointsWithin(point, slack)); impl.WorstCorner(list, point, slack) != toldMerit(worst) {
			t.Errorf("%s at %v by %v: %v, of all points %d", brief(list), point, slack, impl.WorstCorner(list, point, slack), worst)
		}
	}
}

func TestToleranceOfEachAim(t *testing.T) {
	for place := range 20 {
		list := slices.Repeat([]impl.Aim{aimOf(0, 1, 1)}, 20)
		list[place] = aimOf(-50, 2, -3)
		holdCorner(t, fmt.Sprint("aim ", place), list, []int64{4, 4}, []int64{1, 2}, toldMerit(54))
		holdTrials(t, fmt.Sprint("aim ", place), list, []int64{4, 4}, []int64{0, 0}, 9, 5, toldMerit(46))
	}
}
