package tests

import (
	"math"
	"slices"
	"testing"

	"loop.example/g00049/impl"
)

// lessTimes takes f times b away from a, number by number.
func lessTimes(a []int64, b []int64, f int64) []int64 {
	left := []int64{}
	for j := range a {
		left = append(left, residue(bigPlus(bigOf(a[j]), bigTimes(bigOf(-f), bigOf(b[j])))))
	}
	return left
}

// clearedByWords is what is left of the rows at the end, and the cells noted on the way, the first one first; false if a column has no row.
func clearedByWords(rows [][]int64) ([][]int64, []impl.Cell, bool) {
	work, noted := [][]int64{}, []impl.Cell{}
	for _, row := range rows {
		work = append(work, residuesOf(row))
	}
	for c := range work {
		p := c
		for p < len(work) && work[p][c] == 0 {
			p++
		}
		if p == len(work) {
			return nil, nil, false
		}
		if p != c {
			work[c], work[p] = work[p], work[c]
			noted = append(noted, cellOf(int64(c), int64(p), 0, 1, 1, 0))
		}
		for r := range work {
			if r != c && work[r][c] != 0 {
				f := residue(bigOver(bigOf(work[r][c]), bigOf(work[c][c])))
				work[r] = lessTimes(work[r], work[c], f)
				noted = append(noted, cellOf(int64(c), int64(r), 1, 0, f, 1))
			}
		}
	}
	return work, noted, true
}

func programByWords(rows [][]int64) impl.MeshResult {
	if code := impl.RowsFault(rows); code != impl.OK {
		return noMesh(code)
	}
	work, cells, can := clearedByWords(rows)
	if !can {
		return noMesh(impl.ErrNone)
	}
	phases := []int64{}
	for i, row := range work {
		phases = append(phases, row[i])
	}
	slices.Reverse(cells)
	return toldMesh(phases, cells...)
}

func holdProgram(t *testing.T, what string, rows [][]int64, want impl.MeshResult) {
	t.Helper()
	given := roomyRows(rows)
	if rows == nil {
		given = nil
	}
	kept := allOfRows(given)
	holdMesh(t, what+", ProgramMesh of "+brief(rows), func() impl.MeshResult { return impl.ProgramMesh(given) }, want)
	for i, row := range given {
		if len(row) != len(rows[i]) {
			t.Errorf("%s: ProgramMesh changes how long row %d is", what, i)
		}
	}
	if !sameRows(allOfRows(given), kept) {
		t.Errorf("%s: ProgramMesh changes %s, or shares memory with it", what, brief(rows))
	}
}

// holdDone looks whether the mesh that is programmed does the matrix.
func holdDone(t *testing.T, what string, rows [][]int64) {
	t.Helper()
	got := impl.ProgramMesh(rows)
	if got.Code != impl.OK || impl.MeshFault(got.Mesh) != impl.OK {
		t.Errorf("%s: ProgramMesh(%s) = %s", what, brief(rows), brief(got))
		return
	}
	wish := [][]int64{}
	for _, row := range rows {
		wish = append(wish, residuesOf(row))
	}
	if done := readByWords(got.Mesh); !sameRows(done.Rows, wish) {
		t.Errorf("%s: the mesh of %s does %s", what, brief(rows), brief(done))
	}
	if read := impl.ReadMesh(got.Mesh); read.Code != impl.OK || !sameRows(read.Rows, wish) {
		t.Errorf("%s: ReadMesh of the mesh of %s is %s", what, brief(rows), brief(read))
	}
	for _, cell := range got.Mesh.Cells {
		if list := []int64{cell.A, cell.B, cell.C, cell.D}; !slices.Equal(list, residuesOf(list)) {
			t.Errorf("%s: the cell %v has no residues", what, cell)
		}
	}
	if !slices.Equal(got.Mesh.Phases, residuesOf(got.Mesh.Phases)) {
		t.Errorf("%s: the phases %v are no residues", what, got.Mesh.Phases)
	}
}

// sparseRows have many noughts, so that rows change places and are passed over.
func sparseRows(draw *numbers, side int) [][]int64 {
	rows := drawnMap(draw, side, side)
	for _, row := range rows {
		for j := range row {
			row[j] = draw.below(5) - 2
			if draw.below(3) > 0 {
				row[j] = noughts()[draw.below(9)]
			}
		}
	}
	return rows
}

// shuffledRows are those of a right matrix in another order.
func shuffledRows(draw *numbers, rows [][]int64) [][]int64 {
	for i := range rows {
		j := draw.below(int64(len(rows)))
		rows[i], rows[j] = rows[j], rows[i]
	}
	return rows
}

func TestProgramMeshTold(t *testing.T) {
	const p, half = impl.Prime, 499122177
	swap := func(i int64, j int64) impl.Cell { return cellOf(i, j, 0, 1, 1, 0) }
	leak := func(i int64, j int64, f int64) impl.Cell { return cellOf(i, j, 1, 0, f, 1) }
	for _, one := range []struct {
		what string
		rows [][]int64
		want impl.MeshResult
	}{
		{"one by one", [][]int64{{5}}, toldMesh([]int64{5})},
		{"one by one, below 0", [][]int64{{-5}}, toldMesh([]int64{p - 5})},
		{"one by one, far out", [][]int64{{p + 5}}, toldMesh([]int64{5})},
		{"a diagonal", [][]int64{{2, 0}, {0, 3}}, toldMesh([]int64{2, 3})},
		{"changed about", [][]int64{{0, 1}, {1, 0}}, toldMesh([]int64{1, 1}, swap(0, 1))},
		{"changed about, far out", [][]int64{{p, 1}, {1 - p, -p}}, toldMesh([]int64{1, 1}, swap(0, 1))},
		{"changed about, other numbers", [][]int64{{0, 3}, {5, 0}}, toldMesh([]int64{5, 3}, swap(0, 1))},
		{"the last one first", [][]int64{{0, 2}, {3, 1}}, toldMesh([]int64{3, 2}, leak(1, 0, half), swap(0, 1))},
		{"two leaks", [][]int64{{1, 2}, {3, 4}}, toldMesh([]int64{1, p - 2}, leak(1, 0, p-1), leak(0, 1, 3))},
		{"two leaks, far out", [][]int64{{1 - p, 2 + p}, {3 + 2*p, 4 - 3*p}}, toldMesh([]int64{1, p - 2}, leak(1, 0, p-1), leak(0, 1, 3))},
		{"a leak down", [][]int64{{1, 0}, {5, 1}}, toldMesh([]int64{1, 1}, leak(0, 1, 5))},
		{"a leak up", [][]int64{{1, 5}, {0, 1}}, toldMesh([]int64{1, 1}, leak(1, 0, 5))},
		{"a leak below 0", [][]int64{{1, 0}, {-5, 1}}, toldMesh([]int64{1, 1}, leak(0, 1, p-5))},
		{"a leak by parts", [][]int64{{2, 0}, {3, 1}}, toldMesh([]int64{2, 1}, leak(0, 1, half+1))},
		{"two leaks of one column", [][]int64{{1, 0, 0}, {2, 1, 0}, {3, 0, 1}}, toldMesh([]int64{1, 1, 1}, leak(0, 2, 3), leak(0, 1, 2))},
		{"two leaks of the second column", [][]int64{{1, 2, 0}, {0, 1, 0}, {0, 3, 1}}, toldMesh([]int64{1, 1, 1}, leak(1, 2, 3), leak(1, 0, 2))},
		{"round", [][]int64{{0, 1, 0}, {0, 0, 1}, {1, 0, 0}}, toldMesh([]int64{1, 1, 1}, swap(1, 2), swap(0, 2))},
		{"round the other way", [][]int64{{0, 0, 1}, {1, 0, 0}, {0, 1, 0}}, toldMesh([]int64{1, 1, 1}, swap(1, 2), swap(0, 1))},
		{"a swap and leaks", [][]int64{{0, 1, 0}, {2, 3, 0}, {4, 0, 1}}, toldMesh([]int64{2, 1, 1}, leak(1, 2, p-6), leak(1, 0, 3), leak(0, 2, 2), swap(0, 1))},
		{"nought comes on the way", [][]int64{{1, 1, 0}, {1, 1, 1}, {0, 1, 0}}, toldMesh([]int64{1, 1, 1}, leak(1, 0, 1), swap(1, 2), leak(0, 1, 1))},
	} {
		holdProgram(t, one.what, one.rows, one.want)
		if told := programByWords(one.rows); !sameMeshResult(told, one.want) {
			t.Errorf("%s: the words tell %v", one.what, told)
		}
		holdDone(t, one.what, one.rows)
	}
	for side := 1; side <= 24; side++ {
		holdProgram(t, "unit", diagonalRows(side, 1), toldMesh(slices.Repeat([]int64{1}, side)))
		holdProgram(t, "seven times", diagonalRows(side, 7-p), toldMesh(slices.Repeat([]int64{7}, side)))
	}
}

func TestProgramMeshOfWrongRows(t *testing.T) {
	for code, lengths := range map[int64][][]int{
		impl.ErrForm: {{}, {0}, {2}, {1, 1}, {2, 1}, {1, 2}, {3, 2}, {2, 0}, {0, 2}, {3, 3, 2}, {24}, slices.Repeat([]int{23}, 24), slices.Repeat([]int{24}, 23), slices.Repeat([]int{0}, 24)},
		impl.ErrMany: {{25}, {25, 1}, {1, 25}, {2, 2, 25}, slices.Repeat([]int{25}, 25), slices.Repeat([]int{24}, 25), slices.Repeat([]int{0}, 25), slices.Repeat([]int{25}, 24), {1000}},
	} {
		for _, each := range lengths {
			rows := wideRows(each...)
			for i := range rows {
				for j := range rows[i] {
					rows[i][j] = int64(i*j) + 1
				}
			}
			holdProgram(t, "wrong rows", rows, noMesh(code))
		}
	}
	holdProgram(t, "nil", nil, noMesh(impl.ErrForm))
	holdProgram(t, "rows that are nil", [][]int64{nil, nil}, noMesh(impl.ErrForm))
	holdProgram(t, "many rows that are nil", make([][]int64, 25), noMesh(impl.ErrMany))
}

func TestProgramMeshOfRowsWithoutAnInverse(t *testing.T) {
	for _, side := range []int{2, 3, 5, 24} {
		for name, rows := range singularRows(side) {
			holdProgram(t, name, rows, noMesh(impl.ErrNone))
		}
	}
	for _, nought := range noughts() {
		holdProgram(t, "one by one", [][]int64{{nought}}, noMesh(impl.ErrNone))
		holdProgram(t, "a column", [][]int64{{nought, 1}, {nought, 2}}, noMesh(impl.ErrNone))
		holdProgram(t, "the last column", [][]int64{{1, nought}, {2, nought}}, noMesh(impl.ErrNone))
		holdProgram(t, "a row", [][]int64{{1, 2}, {nought, nought}}, noMesh(impl.ErrNone))
	}
	holdProgram(t, "all alike", [][]int64{{1, 1}, {1, 1}}, noMesh(impl.ErrNone))
	holdProgram(t, "twice", [][]int64{{1, 2}, {2, 4}}, noMesh(impl.ErrNone))
	holdProgram(t, "twice but for Prime", [][]int64{{1, 2}, {2 + impl.Prime, 4 - impl.Prime}}, noMesh(impl.ErrNone))
	holdProgram(t, "the bounds", [][]int64{{math.MinInt64, math.MaxInt64}, {math.MinInt64, math.MaxInt64}}, noMesh(impl.ErrNone))
}

// TestProgramMeshOfAllSmallOnes: there is a mesh just if the determinant's residue isn't 0.
func TestProgramMeshOfAllSmallOnes(t *testing.T) {
	try := func(side int, choices []int64) {
		count := 1
		for range side * side {
			count *= len(choices)
		}
		for number := range count {
			rows := diagonalRows(side, 0)
			for i := range side * side {
				rows[i/side][i%side] = choices[number%len(choices)]
				number /= len(choices)
			}
			holdProgram(t, "small", rows, programByWords(rows))
			if residue(determinant(rows)) != 0 {
				holdDone(t, "small", rows)
			} else if got := impl.ProgramMesh(rows); got.Code != impl.ErrNone {
				t.Errorf("ProgramMesh(%v) = %v", rows, got)
			}
		}
	}
	try(1, anyNumbers())
	try(2, []int64{0, 1, -1, 2, impl.Prime, impl.Prime + 2})
	try(3, []int64{0, 1, impl.Prime - 2})
}

func TestProgramMeshByWords(t *testing.T) {
	draw := numbers{state: 1520}
	for side := 1; side <= 24; side++ {
		for range 3 {
			rows := drawnRows(side, uint64(draw.next()))
			holdProgram(t, "drawn", rows, programByWords(rows))
			holdDone(t, "drawn", rows)
			rows = shuffledRows(&draw, diagonalRows(side, draw.below(9)+1))
			holdProgram(t, "shuffled", rows, programByWords(rows))
			holdDone(t, "shuffled", rows)
		}
	}
	if cells := impl.ProgramMesh(drawnRows(24, 1)).Mesh.Cells; len(cells) != 552 {
		t.Errorf("a full matrix has %d cells", len(cells))
	}
	done := 0
	for range 1500 {
		rows := sparseRows(&draw, int(draw.below(8))+1)
		want := programByWords(rows)
		holdProgram(t, "sparse", rows, want)
		if want.Code == impl.OK {
			holdDone(t, "sparse", rows)
			done++
		} else if impl.InvRows(rows).Code != impl.ErrNone {
			t.Errorf("%v can be turned round, but has no mesh", rows)
		}
	}
	if done < 200 {
		t.Errorf("only %d sparse matrices can be done", done)
	}
	shared := []int64{1, 2, 3, 4, 5}
	for _, rows := range [][][]int64{{shared[:2], shared[2:4]}, {shared[:2], shared[1:3]}, {shared[1:3], shared[:2]}} { // rows of one memory are rows all the same
		want := programByWords(copyOfRows(rows))
		if got := impl.ProgramMesh(rows); !sameMeshResult(got, want) || !slices.Equal(shared, []int64{1, 2, 3, 4, 5}) {
			t.Errorf("ProgramMesh(%v) = %v, want %v", rows, got, want)
		}
	}
}

func holdUndo(t *testing.T, what string, m impl.Mesh, want impl.MeshResult) {
	t.Helper()
	given := roomyMesh(m)
	leaveMeshes(t, what+", UndoMesh", []impl.Mesh{given}, func() {
		holdMesh(t, what+", UndoMesh of "+brief(m), func() impl.MeshResult { return impl.UndoMesh(given) }, want)
	})
}

func TestUndoMeshTold(t *testing.T) {
	const p, half, third = impl.Prime, 499122177, 332748118
	holdUndo(t, "one guide", meshOf([]int64{2}), toldMesh([]int64{half}))
	holdUndo(t, "phases", meshOf([]int64{2, -1, p + 3}), toldMesh([]int64{half, p - 1, third}))
	holdUndo(t, "a swap", meshOf([]int64{1, 1}, cellOf(0, 1, 0, 1, 1, 0)), toldMesh([]int64{1, 1}, cellOf(0, 1, 0, 1, 1, 0)))
	holdUndo(t, "a swap upwards", meshOf([]int64{1, 1}, cellOf(1, 0, 0, 1, 1, 0)), toldMesh([]int64{1, 1}, cellOf(0, 1, 0, 1, 1, 0)))
	holdUndo(t, "a leak", meshOf([]int64{1, 1}, cellOf(0, 1, 1, 0, 5, 1)), toldMesh([]int64{1, 1}, cellOf(0, 1, 1, 0, p-5, 1)))
	// The matrix is 0 1; 2 0, its inverse 0 1/2; 1 0.
	holdUndo(t, "phases and a swap", meshOf([]int64{2, 1}, cellOf(0, 1, 0, 1, 1, 0)), toldMesh([]int64{1, half}, cellOf(0, 1, 0, 1, 1, 0)))
	for side := 1; side <= 24; side++ {
		holdUndo(t, "plain", plainMesh(side), impl.MeshResult{Mesh: plainMesh(side)})
	}
	for _, one := range wrongMeshes() {
		holdUndo(t, one.what, one.mesh, noMesh(one.code))
	}
}

// TestUndoMeshGivesTheLightBack: what went through the mesh, and through the one that undoes it, comes out as it went in, either way about.
func TestUndoMeshGivesTheLightBack(t *testing.T) {
	draw := numbers{state: 1521}
	for round := range 150 {
		side, cells := int(draw.below(24))+1, int(draw.below(20))
		switch round {
		case 0:
			side, cells = 24, 600
		case 1:
			side, cells = 2, 600
		}
		m := drawnMesh(&draw, side, cells)
		inverse := impl.InvRows(readByWords(m).Rows)
		holdUndo(t, "drawn", m, programByWords(inverse.Rows))
		undo := impl.UndoMesh(m)
		if !sameMeshResult(undo, impl.ProgramMesh(impl.InvRows(impl.ReadMesh(m).Rows).Rows)) {
			t.Errorf("UndoMesh(%s) = %s", brief(m), brief(undo))
		}
		for range 3 {
			list := drawnWave(&draw, side)
			there := impl.FireMesh(undo.Mesh, impl.FireMesh(m, list).List)
			back := impl.FireMesh(m, impl.FireMesh(undo.Mesh, list).List)
			if want := toldWave(residuesOf(list)...); !sameWave(there, want) || !sameWave(back, want) {
				t.Errorf("%s: %v comes back as %v, %v", brief(m), list, there, back)
			}
		}
		twice := impl.UndoMesh(undo.Mesh)
		if !sameRows(impl.ReadMesh(twice.Mesh).Rows, readByWords(m).Rows) {
			t.Errorf("%s: undone twice it is another one", brief(m))
		}
	}
}

// TestProgrammedMeshesAreUndone goes from a matrix, as promise 17 does.
func TestProgrammedMeshesAreUndone(t *testing.T) {
	draw := numbers{state: 1522}
	for side := 1; side <= 24; side++ {
		rows := shuffledRows(&draw, drawnRows(side, uint64(draw.next())))
		m := impl.ProgramMesh(rows).Mesh
		undo := impl.UndoMesh(m)
		if !sameRows(productSlowly(rows, impl.ReadMesh(undo.Mesh).Rows), diagonalRows(side, 1)) {
			t.Errorf("side %d: not undone", side)
		}
	}
}
