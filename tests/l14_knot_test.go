package tests

import (
	"math"
	"slices"
	"testing"

	"loop.example/g00049/impl"
)

func holdKnots(t *testing.T, what string, rows [][]int64, want ...[]int64) {
	t.Helper()
	holdMap(t, what+", PhaseKnots", impl.PhaseKnots, rows, impl.RowsResult{Rows: want})
	if told := knotsByWords(rows); told.Code != impl.OK || !sameRows(told.Rows, want) {
		t.Errorf("%s: the words tell %v of %v", what, told, rows)
	}
}

func TestKnotsTold(t *testing.T) {
	holdKnots(t, "a knot of 1", [][]int64{{0, 300000}, {900000, 600000}}, []int64{1})
	holdKnots(t, "a knot of -1", [][]int64{{0, 900000}, {300000, 600000}}, []int64{-1})
	holdKnots(t, "none", [][]int64{{0, 300000}, {300000, 600000}}, []int64{0})
	holdKnots(t, "all alike", [][]int64{{5, 5}, {5, 5}}, []int64{0})
	holdKnots(t, "noughts", [][]int64{{0, 0}, {0, 0}}, []int64{0})
	holdKnots(t, "far out", [][]int64{{9 * wholeTurn, 300000 - wholeTurn}, {900000 + 3*wholeTurn, 600000}}, []int64{1})
	holdKnots(t, "quarters", [][]int64{{0, wholeTurn / 4}, {3 * wholeTurn / 4, wholeTurn / 2}}, []int64{1})
	holdKnots(t, "quarters the other way", [][]int64{{0, 3 * wholeTurn / 4}, {wholeTurn / 4, wholeTurn / 2}}, []int64{-1})
	holdKnots(t, "thirds", [][]int64{{0, 0}, {700000, 350000}}, []int64{1})
	holdKnots(t, "the bounds", [][]int64{{math.MinInt64, math.MaxInt64}, {math.MaxInt64, math.MinInt64}}, []int64{0})
	holdKnots(t, "the bounds and a knot", [][]int64{{math.MinInt64, math.MinInt64 + 300000}, {math.MaxInt64 - 148575, math.MaxInt64 - 448575}}, []int64{1})
	holdKnots(t, "two columns", [][]int64{{0, 0}, {700000, 350000}, {0, 0}}, []int64{1}, []int64{-1})
	holdKnots(t, "two rows", [][]int64{{0, 300000, 0}, {900000, 600000, 900000}}, []int64{1, -1})
	holdKnots(t, "each place its own", [][]int64{{0, 300000, 300000, 300000}, {900000, 600000, 300000, 300000}, {900000, 900000, 0, 300000}}, []int64{1, 0, 0}, []int64{0, -1, 0})
}

// TestKnotsHalfATurnApart goes by the sum, each step of just half a turn being taken downwards, whichever way it goes.
func TestKnotsHalfATurnApart(t *testing.T) {
	holdKnots(t, "one to the right", [][]int64{{0, halfTurn}, {0, 262144}}, []int64{-1})
	holdKnots(t, "one down", [][]int64{{0, 0}, {262144, halfTurn}}, []int64{-1})
	holdKnots(t, "one to the left", [][]int64{{0, 262144}, {0, halfTurn}}, []int64{0})
	holdKnots(t, "one up", [][]int64{{0, 262144}, {halfTurn, halfTurn}}, []int64{0})
	holdKnots(t, "one up the other way", [][]int64{{0, -262144}, {halfTurn, halfTurn}}, []int64{-1})
	holdKnots(t, "two beside each other", [][]int64{{0, halfTurn}, {0, 0}}, []int64{-1})
	holdKnots(t, "two over against each other", [][]int64{{0, halfTurn}, {0, halfTurn}}, []int64{-1})
	holdKnots(t, "all four", [][]int64{{0, halfTurn}, {halfTurn, 0}}, []int64{-2})
	holdKnots(t, "all four, far out", [][]int64{{7 + wholeTurn, 7 - halfTurn}, {7 + 3*halfTurn, 7}}, []int64{-2})
	holdKnots(t, "beside half a turn", [][]int64{{0, halfTurn - 1}, {halfTurn + 1, 0}}, []int64{0})
	holdKnots(t, "beside half a turn the other way", [][]int64{{0, halfTurn + 1}, {halfTurn - 1, 0}}, []int64{0})
	holdKnots(t, "half a turn and beside it", [][]int64{{0, halfTurn - 1}, {0, halfTurn}}, []int64{0})
}

func TestKnotsOfRowsAndColumns(t *testing.T) {
	draw := numbers{state: 1421}
	for _, size := range []int{1, 2, 3, 31, 32} {
		row := drawnMap(&draw, 1, size)
		column := drawnMap(&draw, size, 1)
		holdKnots(t, "one row", row)
		holdKnots(t, "one column", column)
		for _, rows := range [][][]int64{row, column} {
			if got := impl.PhaseKnots(rows); len(got.Rows) != 0 {
				t.Errorf("PhaseKnots(%v) = %v", rows, got)
			}
		}
	}
	for _, size := range [][2]int{{2, 2}, {2, 32}, {32, 2}, {32, 32}} {
		got := impl.PhaseKnots(drawnMap(&draw, size[0], size[1]))
		if len(got.Rows) != size[0]-1 || slices.ContainsFunc(got.Rows, func(row []int64) bool { return len(row) != size[1]-1 }) {
			t.Errorf("the knots of %v: %v", size, got)
		}
	}
}

func TestKnotsOfFourPhases(t *testing.T) {
	counts := map[int64]int{}
	for code := range int64(8 * 8 * 8 * 8) {
		rows := [][]int64{{code % 8 * wholeTurn / 8, code / 8 % 8 * wholeTurn / 8}, {code / 64 % 8 * wholeTurn / 8, code / 512 * wholeTurn / 8}}
		got, want := impl.PhaseKnots(rows), knotsByWords(rows)
		if !sameRowsResult(got, want) {
			t.Errorf("PhaseKnots(%v) = %v, want %v", rows, got, want)
			continue
		}
		knot := got.Rows[0][0]
		counts[knot]++
		if knot < -1 && !halfApart(rows) || knot > 1 || knot < -2 {
			t.Errorf("PhaseKnots(%v) = %v", rows, got)
		}
	}
	if counts[-1] == 0 || counts[0] == 0 || counts[1] == 0 {
		t.Errorf("the knots told: %v", counts)
	}
}

// TestKnotsAddUp goes round a whole map: what is met on its edge are the knots within.
func TestKnotsAddUp(t *testing.T) {
	draw := numbers{state: 1422}
	for range 300 {
		rows := wideRows(slices.Repeat([]int{int(draw.below(6)) + 2}, int(draw.below(6))+2)...)
		for _, row := range rows {
			for j := range row {
				// Odd phases less even ones are never just half a turn.
				row[j] = 2*draw.below(wholeTurn/2) + int64(j)%2
			}
		}
		for i := range rows {
			for j := range rows[i] {
				rows[i][j] ^= int64(i) % 2
			}
		}
		sum := int64(0)
		for _, row := range impl.PhaseKnots(rows).Rows {
			for _, knot := range row {
				sum += knot
			}
		}
		way := edgeOf(rows)
		around := impl.UnwrapRow(way)
		if got := around[len(around)-1] - around[0]; got != sum*wholeTurn {
			t.Errorf("%v: the knots add up to %d, the edge to %d parts", rows, sum, got)
		}
	}
}

// edgeOf goes right, down, left and up along a map's edge, to where it began.
func edgeOf(rows [][]int64) []int64 {
	last, width := len(rows)-1, len(rows[0])
	way := slices.Clone(rows[0])
	for i := 1; i <= last; i++ {
		way = append(way, rows[i][width-1])
	}
	for j := width - 2; j >= 0; j-- {
		way = append(way, rows[last][j])
	}
	for i := last - 1; i >= 0; i-- {
		way = append(way, rows[i][0])
	}
	return way
}
