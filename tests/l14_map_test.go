package tests

import (
	"math"
	"slices"
	"testing"

	"loop.example/g00049/impl"
)

// mapCodeByWords asks for all that is too many ahead of all that is not right.
func mapCodeByWords(rows [][]int64) int64 {
	most, alike := len(rows), true
	for _, row := range rows {
		most = max(most, len(row))
		alike = alike && len(row) == len(rows[0])
	}
	switch {
	case most > 32:
		return impl.ErrMany
	case len(rows) == 0 || len(rows[0]) == 0 || !alike:
		return impl.ErrForm
	}
	return impl.OK
}

// unwrapMapByWords has the first column first, then each row from there on.
func unwrapMapByWords(rows [][]int64) impl.RowsResult {
	if code := mapCodeByWords(rows); code != impl.OK {
		return impl.RowsResult{Code: code}
	}
	first, answer := []int64{}, [][]int64{}
	for _, row := range rows {
		first = append(first, row[0])
	}
	for i, start := range unwrapByWords(first) {
		answer = append(answer, goneOnByWords(start, rows[i]))
	}
	return impl.RowsResult{Rows: answer}
}

// unwrapAcrossByWords has the first row first, then each column from there on.
func unwrapAcrossByWords(rows [][]int64) impl.RowsResult {
	if code := mapCodeByWords(rows); code != impl.OK {
		return impl.RowsResult{Code: code}
	}
	answer := make([][]int64, len(rows))
	for j, start := range unwrapByWords(rows[0]) {
		column := []int64{}
		for _, row := range rows {
			column = append(column, row[j])
		}
		for i, number := range goneOnByWords(start, column) {
			answer[i] = append(answer[i], number)
		}
	}
	return impl.RowsResult{Rows: answer}
}

// knotsByWords adds the four steps one by one.
func knotsByWords(rows [][]int64) impl.RowsResult {
	if code := mapCodeByWords(rows); code != impl.OK {
		return impl.RowsResult{Code: code}
	}
	answer := impl.RowsResult{}
	for i := 0; i+1 < len(rows) && len(rows[0]) > 1; i++ {
		line := []int64{}
		for j := 0; j+1 < len(rows[0]); j++ {
			here, right, below, slant := rows[i][j], rows[i][j+1], rows[i+1][j], rows[i+1][j+1]
			turns := stepByWords(here, right) + stepByWords(right, slant) + stepByWords(slant, below) + stepByWords(below, here)
			line = append(line, turns/wholeTurn)
		}
		answer.Rows = append(answer.Rows, line)
	}
	return answer
}

func sameRowsResult(a impl.RowsResult, b impl.RowsResult) bool {
	return a.Code == b.Code && sameRows(a.Rows, b.Rows)
}

// roomyRows share nothing with the rows, and have room behind all ends.
func roomyRows(rows [][]int64) [][]int64 {
	twin := [][]int64{}
	for _, row := range rows {
		twin = append(twin, roomy(row, 5))
	}
	return roomy(twin, []int64{6, 6, 6})
}

// allOfRows are copies of the rows, with what stands behind all ends.
func allOfRows(rows [][]int64) [][]int64 {
	all := [][]int64{}
	for _, row := range rows[:cap(rows)] {
		all = append(all, slices.Clone(row[:cap(row)]))
	}
	return all
}

// spoilRows writes wherever an answer's rows reach.
func spoilRows(rows [][]int64) {
	rows = rows[:cap(rows)]
	for i, row := range rows {
		for j := range row[:cap(row)] {
			row[:cap(row)][j] = 77
		}
		rows[i] = []int64{78}
	}
}

// holdMapFault looks behind the ends of the rows, too.
func holdMapFault(t *testing.T, what string, rows [][]int64, want int64) {
	t.Helper()
	given := roomyRows(rows)
	kept := allOfRows(given)
	for range 2 {
		if got := impl.MapFault(given); got != want {
			t.Errorf("%s: MapFault(%s) = %d, want %d", what, brief(rows), got, want)
		}
	}
	if !sameRows(allOfRows(given), kept) {
		t.Errorf("%s: MapFault changes %s", what, brief(rows))
	}
}

// holdMap asks twice and writes into the first answer; neither the rows nor the second answer may show it.
func holdMap(t *testing.T, what string, ask func([][]int64) impl.RowsResult, rows [][]int64, want impl.RowsResult) {
	t.Helper()
	given := roomyRows(rows)
	kept := allOfRows(given)
	got, again := ask(given), ask(given)
	if !sameRowsResult(got, want) {
		t.Errorf("%s of %s: %s, want %s", what, brief(rows), brief(got), brief(want))
	}
	if got.Code != impl.OK && len(got.Rows) != 0 {
		t.Errorf("%s of %s: code %d with rows", what, brief(rows), got.Code)
	}
	apart(t, [][][]int64{got.Rows}, [][][]int64{given, again.Rows})
	holdOwnLists(t, got.Rows)
	spoilRows(got.Rows)
	if !sameRowsResult(again, want) {
		t.Errorf("%s of %s: %s when asked again, want %s", what, brief(rows), brief(again), brief(want))
	}
	for i, row := range given {
		if len(row) != len(rows[i]) {
			t.Errorf("%s changes how long row %d is", what, i)
		}
	}
	if !sameRows(allOfRows(given), kept) {
		t.Errorf("%s changes %s, or shares memory with it", what, brief(rows))
	}
}

// holdAllOfMap asks all that there is about a map.
func holdAllOfMap(t *testing.T, what string, rows [][]int64) {
	t.Helper()
	holdMapFault(t, what, rows, mapCodeByWords(rows))
	holdMap(t, what+", UnwrapMap", impl.UnwrapMap, rows, unwrapMapByWords(rows))
	holdMap(t, what+", UnwrapAcross", impl.UnwrapAcross, rows, unwrapAcrossByWords(rows))
	holdMap(t, what+", PhaseKnots", impl.PhaseKnots, rows, knotsByWords(rows))
}

func drawnMap(draw *numbers, height int, width int) [][]int64 {
	rows := [][]int64{}
	for range height {
		rows = append(rows, drawnPhases(draw, width))
	}
	return rows
}

// smoothMap has neighbours that lie less than half a turn apart, but the whole of it goes over many turns.
func smoothMap(draw *numbers, height int, width int) [][]int64 {
	down, right := []int64{draw.below(30*wholeTurn) - 15*wholeTurn}, []int64{0}
	// Steps down and steps to the right are each alike everywhere, but for a wobble.
	for i := range height {
		down = append(down, down[i]+draw.below(800000)-400000)
	}
	for j := range width {
		right = append(right, right[j]+draw.below(800000)-400000)
	}
	rows := wideRows(slices.Repeat([]int{width}, height)...)
	for i := range rows {
		for j := range rows[i] {
			rows[i][j] = down[i] + right[j] + draw.below(60000)
		}
	}
	return rows
}

// seenMap leaves of each phase what is seen of it, or puts turns of its own to it.
func seenMap(draw *numbers, rows [][]int64, turns int64) [][]int64 {
	seen := copyOfRows(rows)
	for _, row := range seen {
		for j := range row {
			row[j] = wrapByWords(row[j]) + wholeTurn*(draw.below(2*turns+1)-turns)
		}
	}
	return seen
}

// halfApart says whether two neighbours lie just half a turn apart.
func halfApart(rows [][]int64) bool {
	for i, row := range rows {
		for j, phase := range row {
			if j > 0 && stepByWords(row[j-1], phase) == -halfTurn || i > 0 && stepByWords(rows[i-1][j], phase) == -halfTurn {
				return true
			}
		}
	}
	return false
}

// knotted says whether one knot is not 0.
func knotted(rows [][]int64) bool {
	return slices.ContainsFunc(knotsByWords(rows).Rows, func(row []int64) bool {
		return slices.ContainsFunc(row, func(knot int64) bool { return knot != 0 })
	})
}

// wrongMaps are maps by their codes.
func wrongMaps() map[int64][][][]int64 {
	return map[int64][][][]int64{
		impl.ErrForm: {
			nil, {}, {{}}, {nil}, {{}, {}}, {nil, nil, nil}, {{}, {1}}, {{1}, {}}, {{1}, nil}, {{1, 2}, {1}}, {{1}, {1, 2}}, {{1, 2}, {3, 4}, {5}}, {{1, 2}, {3, 4}, {}},
			{{1, 2}, {3}, {4, 5}}, {{1, 2, 3}, {3, 4}, {5, 6, 7}, {8, 9, 10}}, wideRows(32, 31), wideRows(31, 32), wideRows(1, 32), make([][]int64, 32), append(wideRows(slices.Repeat([]int{4}, 31)...), nil),
		},
		impl.ErrMany: {
			make([][]int64, 33), make([][]int64, 1000), wideRows(33), wideRows(1000), wideRows(slices.Repeat([]int{1}, 33)...), wideRows(slices.Repeat([]int{32}, 33)...), wideRows(slices.Repeat([]int{33}, 33)...),
			wideRows(slices.Repeat([]int{33}, 32)...), wideRows(33, 33), wideRows(32, 33), wideRows(33, 32), wideRows(1, 1, 33), wideRows(0, 33), wideRows(0, 0, 0, 33), wideRows(5, 4, 33), wideRows(33, 0), append(wideRows(slices.Repeat([]int{4}, 31)...), make([]int64, 33)),
			append(wideRows(slices.Repeat([]int{4}, 32)...), nil), append(wideRows(0), make([][]int64, 32)...),
		},
	}
}

func TestMapFaultTold(t *testing.T) {
	for code, maps := range wrongMaps() {
		for _, rows := range maps {
			holdMapFault(t, "wrong", rows, code)
			if mapCodeByWords(rows) != code {
				t.Errorf("the words tell %d of %s", mapCodeByWords(rows), brief(rows))
			}
		}
	}
	for _, size := range [][2]int{{1, 1}, {1, 2}, {2, 1}, {2, 2}, {1, 32}, {32, 1}, {31, 32}, {32, 31}, {32, 32}} {
		holdMapFault(t, "right", wideRows(slices.Repeat([]int{size[1]}, size[0])...), impl.OK)
	}
}

func TestMapFaultOfEverySize(t *testing.T) {
	draw := numbers{state: 1411}
	for range 3000 {
		lengths := []int{}
		usual := int(draw.below(36))
		for range draw.below(36) {
			length := usual
			if draw.below(40) == 0 {
				length = int(draw.below(36))
			}
			lengths = append(lengths, length)
		}
		rows := wideRows(lengths...)
		if got, want := impl.MapFault(rows), mapCodeByWords(rows); got != want {
			t.Errorf("MapFault of lengths %v = %d, want %d", lengths, got, want)
		}
	}
}

func TestWrongMapsAreToldByAll(t *testing.T) {
	for code, maps := range wrongMaps() {
		for _, rows := range maps {
			for what, ask := range map[string]func([][]int64) impl.RowsResult{"UnwrapMap": impl.UnwrapMap, "UnwrapAcross": impl.UnwrapAcross, "PhaseKnots": impl.PhaseKnots} {
				holdMap(t, what, ask, rows, impl.RowsResult{Code: code})
				if got := ask(rows); got.Code != code || got.Rows != nil {
					t.Errorf("%s of %s: %v", what, brief(rows), brief(got))
				}
			}
		}
	}
}

func TestUnwrapMapTold(t *testing.T) {
	for _, one := range []struct {
		what   string
		rows   [][]int64
		down   [][]int64
		across [][]int64
	}{
		{"one number", [][]int64{{600000}}, [][]int64{{-448576}}, [][]int64{{-448576}}},
		{"one row", [][]int64{{0, 400000, 800000, 151424}}, [][]int64{{0, 400000, 800000, 1200000}}, [][]int64{{0, 400000, 800000, 1200000}}},
		{"one column", [][]int64{{0}, {400000}, {800000}, {151424}}, [][]int64{{0}, {400000}, {800000}, {1200000}}, [][]int64{{0}, {400000}, {800000}, {1200000}}},
		{"a slope", [][]int64{{0, 300000, 600000}, {400000, 700000, 1000000}}, [][]int64{{0, 300000, 600000}, {400000, 700000, 1000000}}, [][]int64{{0, 300000, 600000}, {400000, 700000, 1000000}}},
		{"a slope from half a turn on", [][]int64{{524288, 824288}, {924288, 1224288}}, [][]int64{{-524288, -224288}, {-124288, 175712}}, [][]int64{{-524288, -224288}, {-124288, 175712}}},
		{"far out", [][]int64{{7 * 1048576, 1 - 9*1048576}, {2 + 1048576, 3}}, [][]int64{{0, 1}, {2, 3}}, [][]int64{{0, 1}, {2, 3}}},
		{"the bounds", [][]int64{{math.MinInt64, math.MaxInt64}, {math.MaxInt64 - 524287, math.MinInt64 + 524288}}, [][]int64{{0, -1}, {-524288, -524288}}, [][]int64{{0, -1}, {-524288, -524288}}},
		// The ways to the last number go round a knot on either side, and differ by a turn.
		{"a knot of 1", [][]int64{{0, 300000}, {900000, 600000}}, [][]int64{{0, 300000}, {-148576, -448576}}, [][]int64{{0, 300000}, {-148576, 600000}}},
		{"a knot of -1", [][]int64{{0, 900000}, {300000, 600000}}, [][]int64{{0, -148576}, {300000, 600000}}, [][]int64{{0, -148576}, {300000, -448576}}},
		// Neighbours just half a turn apart are taken downwards on both ways: no knot is told, and still the ways differ.
		{"half a turn in the last row", [][]int64{{0, 262144}, {0, 524288}}, [][]int64{{0, 262144}, {0, -524288}}, [][]int64{{0, 262144}, {0, 524288}}},
		{"half a turn in the last column", [][]int64{{0, 0}, {262144, 524288}}, [][]int64{{0, 0}, {262144, 524288}}, [][]int64{{0, 0}, {262144, -524288}}},
		{"half a turn everywhere", [][]int64{{0, 524288}, {524288, 0}}, [][]int64{{0, -524288}, {-524288, -1048576}}, [][]int64{{0, -524288}, {-524288, -1048576}}},
	} {
		holdMap(t, one.what+", UnwrapMap", impl.UnwrapMap, one.rows, impl.RowsResult{Rows: one.down})
		holdMap(t, one.what+", UnwrapAcross", impl.UnwrapAcross, one.rows, impl.RowsResult{Rows: one.across})
		holdAllOfMap(t, one.what, one.rows)
	}
}

func TestMapsByWords(t *testing.T) {
	draw := numbers{state: 1412}
	for range 400 {
		holdAllOfMap(t, "drawn", drawnMap(&draw, int(draw.below(6))+1, int(draw.below(6))+1))
	}
	for _, size := range [][2]int{{1, 1}, {1, 32}, {32, 1}, {2, 32}, {32, 2}, {31, 32}, {32, 31}, {32, 32}} {
		holdAllOfMap(t, "great", drawnMap(&draw, size[0], size[1]))
		holdAllOfMap(t, "smooth", smoothMap(&draw, size[0], size[1]))
	}
}

func TestUnwrappedMapsDifferByTurns(t *testing.T) {
	draw := numbers{state: 1413}
	for range 200 {
		rows := drawnMap(&draw, int(draw.below(9))+1, int(draw.below(9))+1)
		for _, got := range []impl.RowsResult{impl.UnwrapMap(rows), impl.UnwrapAcross(rows)} {
			for i, row := range rows {
				for j, phase := range row {
					if got.Code != impl.OK || !wholeTurnsApart(got.Rows[i][j], phase) {
						t.Fatalf("%v became %v", rows, got)
					}
				}
			}
			if got.Rows[0][0] != wrapByWords(rows[0][0]) {
				t.Errorf("%v starts with %d", rows, got.Rows[0][0])
			}
		}
	}
}

func TestSmoothMapsComeBack(t *testing.T) {
	draw := numbers{state: 1414}
	for round := range 120 {
		height, width := int(draw.below(32))+1, int(draw.below(32))+1
		if round == 0 {
			height, width = 32, 32
		}
		rows := smoothMap(&draw, height, width)
		for _, seen := range [][][]int64{rows, seenMap(&draw, rows, 0), seenMap(&draw, rows, 5)} {
			down, across := impl.UnwrapMap(seen), impl.UnwrapAcross(seen)
			if !sameRowsResult(down, across) || knotted(seen) {
				t.Fatalf("the ways differ at %s", brief(seen))
			}
			start := down.Rows[0][0] - rows[0][0]
			for i, row := range rows {
				for j, phase := range row {
					if down.Rows[i][j]-phase != start || start%wholeTurn != 0 {
						t.Fatalf("%s does not come back: %s", brief(rows), brief(down.Rows))
					}
				}
			}
		}
	}
}

// TestWaysAgreeWithoutKnots draws maps of few phases, so that many have no knot, and many have one.
func TestWaysAgreeWithoutKnots(t *testing.T) {
	draw := numbers{state: 1415}
	smooth, agreed, differed := 0, 0, 0
	for range 20000 {
		rows := wideRows(slices.Repeat([]int{int(draw.below(3)) + 2}, int(draw.below(3))+2)...)
		for _, row := range rows {
			for j := range row {
				row[j] = draw.below(6)*wholeTurn/8 + draw.below(3)*wholeTurn
			}
		}
		same := sameRowsResult(impl.UnwrapMap(rows), impl.UnwrapAcross(rows))
		switch {
		case !knotted(rows) && !halfApart(rows):
			smooth++
			if !same {
				t.Errorf("no knot in %v, but the ways differ", rows)
			}
		case same:
			agreed++
		default:
			differed++
		}
	}
	if smooth < 1000 || differed < 1000 {
		t.Errorf("%d maps without knots, %d others agreed, %d differed", smooth, agreed, differed)
	}
}

func TestMapsSeenFromTheSide(t *testing.T) {
	draw := numbers{state: 1416}
	for range 200 {
		rows := drawnMap(&draw, int(draw.below(5))+1, int(draw.below(5))+1)
		side := wideRows(slices.Repeat([]int{len(rows)}, len(rows[0]))...)
		for i, row := range rows {
			for j, phase := range row {
				side[j][i] = phase
			}
		}
		down, across := impl.UnwrapMap(rows), impl.UnwrapAcross(side)
		for i := range rows {
			for j := range rows[i] {
				if down.Rows[i][j] != across.Rows[j][i] {
					t.Fatalf("%v: %v down, %v across from the side", rows, down, across)
				}
			}
		}
	}
}
