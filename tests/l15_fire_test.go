package tests

import (
	"math"
	"slices"
	"testing"

	"loop.example/g00049/impl"
)

// fireByWords goes through the phases, then through the cells, one by one, by big numbers.
func fireByWords(m impl.Mesh, list []int64) impl.WaveResult {
	if code := meshCodeByWords(m); code != impl.OK {
		return noWave(code)
	}
	if len(list) != int(m.Side) {
		return noWave(impl.ErrForm)
	}
	lights := residuesOf(list)
	for i := range lights {
		lights[i] = residue(bigTimes(bigOf(lights[i]), bigOf(m.Phases[i])))
	}
	for _, cell := range m.Cells {
		x, y := bigOf(lights[cell.I]), bigOf(lights[cell.J])
		lights[cell.I] = residue(bigPlus(bigTimes(bigOf(cell.A), x), bigTimes(bigOf(cell.B), y)))
		lights[cell.J] = residue(bigPlus(bigTimes(bigOf(cell.C), x), bigTimes(bigOf(cell.D), y)))
	}
	return toldWave(lights...)
}

// readByWords sends 1 into one guide after the other.
func readByWords(m impl.Mesh) impl.ModRows {
	if code := meshCodeByWords(m); code != impl.OK {
		return impl.ModRows{Code: code}
	}
	columns := [][]int64{}
	for k := range m.Phases {
		columns = append(columns, fireByWords(m, unitWave(len(m.Phases), k)).List)
	}
	return impl.ModRows{Rows: turnedRows(columns)}
}

// readByProducts multiplies the matrices of the phases and of the cells, each ahead of those it comes behind.
func readByProducts(m impl.Mesh) [][]int64 {
	rows := diagonalRows(len(m.Phases), 0)
	for i, phase := range m.Phases {
		rows[i][i] = phase
	}
	for _, cell := range m.Cells {
		one := diagonalRows(len(m.Phases), 1)
		one[cell.I][cell.I], one[cell.I][cell.J] = cell.A, cell.B
		one[cell.J][cell.I], one[cell.J][cell.J] = cell.C, cell.D
		rows = productSlowly(one, rows)
	}
	return productSlowly(rows, diagonalRows(len(rows), 1))
}

// timesList is a matrix times a list.
func timesList(rows [][]int64, list []int64) []int64 {
	products := []int64{}
	for _, row := range rows {
		sum := bigOf(0)
		for j, number := range row {
			sum = bigPlus(sum, bigTimes(bigOf(number), bigOf(list[j])))
		}
		products = append(products, residue(sum))
	}
	return products
}

func holdFire(t *testing.T, what string, m impl.Mesh, list []int64, want impl.WaveResult) {
	t.Helper()
	given, light := roomyMesh(m), roomy(list, 9)
	if list == nil {
		light = nil
	}
	leaveMeshes(t, what+", FireMesh", []impl.Mesh{given}, func() {
		holdWave(t, what+", FireMesh", func() impl.WaveResult { return impl.FireMesh(given, light) }, want, light)
	})
}

func holdReadMesh(t *testing.T, what string, m impl.Mesh, want impl.ModRows) {
	t.Helper()
	given := roomyMesh(m)
	leaveMeshes(t, what+", ReadMesh", []impl.Mesh{given}, func() {
		got, again := impl.ReadMesh(given), impl.ReadMesh(given)
		if got.Code != want.Code || !sameRows(got.Rows, want.Rows) {
			t.Errorf("%s: ReadMesh(%s) = %s, want %s", what, brief(m), brief(got), brief(want))
		}
		holdOwnLists(t, got.Rows)
		spoilRows(got.Rows)
		if again.Code != want.Code || !sameRows(again.Rows, want.Rows) {
			t.Errorf("%s: ReadMesh(%s) = %s when asked again, want %s", what, brief(m), brief(again), brief(want))
		}
	})
}

func TestFireMeshTold(t *testing.T) {
	const p, least, most = impl.Prime, math.MinInt64, math.MaxInt64
	swap := cellOf(0, 1, 0, 1, 1, 0)
	add := cellOf(0, 1, 1, 0, 1, 1)
	for _, one := range []struct {
		what string
		mesh impl.Mesh
		list []int64
		want []int64
	}{
		{"one guide", meshOf([]int64{3}), []int64{5}, []int64{15}},
		{"one guide, below 0", meshOf([]int64{-3}), []int64{5}, []int64{p - 15}},
		{"both below 0", meshOf([]int64{-3}), []int64{-5}, []int64{15}},
		{"phases alone", meshOf([]int64{2, 3, 5}), []int64{7, 11, 13}, []int64{14, 33, 65}},
		{"nothing to do", plainMesh(3), []int64{-1, p, p + 4}, []int64{p - 1, 0, 4}},
		{"one cell", meshOf([]int64{1, 1}, cellOf(0, 1, 2, 3, 5, 7)), []int64{10, 100}, []int64{320, 750}},
		{"one cell the other way about", meshOf([]int64{1, 1}, cellOf(1, 0, 2, 3, 5, 7)), []int64{10, 100}, []int64{570, 230}},
		{"one cell over another guide", meshOf([]int64{1, 1, 1}, cellOf(2, 0, 2, 3, 5, 7)), []int64{10, 4, 100}, []int64{570, 4, 230}},
		{"the phases come first", meshOf([]int64{2, 3}, swap), []int64{10, 100}, []int64{300, 20}},
		{"swapped, then added", meshOf([]int64{1, 1}, swap, add), []int64{10, 100}, []int64{100, 110}},
		{"added, then swapped", meshOf([]int64{1, 1}, add, swap), []int64{10, 100}, []int64{110, 10}},
		{"swapped twice", meshOf([]int64{1, 1}, swap, swap), []int64{10, 100}, []int64{10, 100}},
		{"noughts", meshOf([]int64{5, 6}, add), []int64{0, 0}, []int64{0, 0}},
		{"noughts far out", meshOf([]int64{5, 6}, add), []int64{-p, 7 * p}, []int64{0, 0}},
		{"cells below 0", meshOf([]int64{1, 1}, cellOf(0, 1, -1, 1, -2, -3)), []int64{10, 4}, []int64{p - 6, p - 32}},
		{"cells far out", meshOf([]int64{1 - p, p + 1}, cellOf(0, 1, 2*p+2, 3-p, 5+p, 7-2*p)), []int64{10 + p, 100 - p}, []int64{320, 750}},
		{"the bounds", meshOf([]int64{1, 1}, cellOf(0, 1, most, 0, 0, least)), []int64{1, 1}, []int64{residue(bigOf(most)), residue(bigOf(least))}},
		{"the bounds of the list", plainMesh(2), []int64{least, most}, []int64{residue(bigOf(least)), residue(bigOf(most))}},
		{"the bounds of the phases", meshOf([]int64{least, most}), []int64{1, 1}, []int64{residue(bigOf(least)), residue(bigOf(most))}},
	} {
		holdFire(t, one.what, one.mesh, one.list, toldWave(one.want...))
		if told := fireByWords(one.mesh, one.list); !slices.Equal(told.List, one.want) {
			t.Errorf("%s: the words tell %v", one.what, told)
		}
	}
	long := meshOf([]int64{1, 1}, slices.Repeat([]impl.Cell{add}, 600)...)
	holdFire(t, "600 cells", long, []int64{3, 5}, toldWave(3, 1805))
	long.Cells[599] = swap
	holdFire(t, "600 cells, the last one swaps", long, []int64{3, 5}, toldWave(1802, 3))
	long.Cells[0], long.Cells[599] = swap, add
	holdFire(t, "600 cells, the first one swaps", long, []int64{3, 5}, toldWave(5, 2998))
}

func TestFireMeshOfWrongMeshes(t *testing.T) {
	for _, one := range wrongMeshes() {
		for _, length := range []int{0, 1, 2, 3, 24, 25} {
			holdFire(t, one.what, one.mesh, make([]int64, length), noWave(one.code))
		}
		holdFire(t, one.what, one.mesh, make([]int64, len(one.mesh.Phases)), noWave(one.code))
		holdFire(t, one.what, one.mesh, nil, noWave(one.code))
		holdReadMesh(t, one.what, one.mesh, impl.ModRows{Code: one.code})
		if got := impl.ReadMesh(one.mesh); got.Rows != nil {
			t.Errorf("%s: ReadMesh tells rows: %v", one.what, got)
		}
	}
}

func TestFireMeshOfWrongLists(t *testing.T) {
	draw := numbers{state: 1510}
	for _, side := range []int{1, 2, 3, 8, 23, 24} {
		m := drawnMesh(&draw, side, 5)
		for length := range 30 {
			if length != side {
				holdFire(t, "a wrong list", m, make([]int64, length), noWave(impl.ErrForm))
			}
		}
		holdFire(t, "a long list", m, make([]int64, 1000), noWave(impl.ErrForm))
		holdFire(t, "no list", m, nil, noWave(impl.ErrForm))
	}
}

func TestFireMeshByWords(t *testing.T) {
	draw := numbers{state: 1511}
	for range 400 {
		side := int(draw.below(24)) + 1
		m, list := drawnMesh(&draw, side, int(draw.below(20))), drawnWave(&draw, side)
		holdFire(t, "drawn", m, list, fireByWords(m, list))
	}
	for _, side := range []int{2, 3, 24} {
		m, list := drawnMesh(&draw, side, 600), drawnWave(&draw, side)
		holdFire(t, "600 cells", m, list, fireByWords(m, list))
	}
	for _, number := range anyNumbers() {
		for place := range 4 {
			parts := []int64{2, 3, 5, 7}
			parts[place] = number
			m := meshOf([]int64{1, -2}, cellOf(1, 0, parts[0], parts[1], parts[2], parts[3]))
			holdFire(t, "a cell's edge", m, []int64{number, 11}, fireByWords(m, []int64{number, 11}))
		}
	}
}

func TestReadMeshTold(t *testing.T) {
	const p = impl.Prime
	for _, one := range []struct {
		what string
		mesh impl.Mesh
		want [][]int64
	}{
		{"one guide", meshOf([]int64{7}), [][]int64{{7}}},
		{"one guide, below 0", meshOf([]int64{-7}), [][]int64{{p - 7}}},
		{"phases alone", meshOf([]int64{2, p + 3, -5}), [][]int64{{2, 0, 0}, {0, 3, 0}, {0, 0, p - 5}}},
		{"one cell", meshOf([]int64{1, 1}, cellOf(0, 1, 2, 3, 5, 7)), [][]int64{{2, 3}, {5, 7}}},
		{"one cell the other way about", meshOf([]int64{1, 1}, cellOf(1, 0, 2, 3, 5, 7)), [][]int64{{7, 5}, {3, 2}}},
		{"one cell behind phases", meshOf([]int64{10, 100}, cellOf(0, 1, 2, 3, 5, 7)), [][]int64{{20, 300}, {50, 700}}},
		{"one cell among three guides", meshOf([]int64{1, 9, 1}, cellOf(0, 2, 2, 3, 5, 7)), [][]int64{{2, 0, 3}, {0, 9, 0}, {5, 0, 7}}},
		{"one cell upwards", meshOf([]int64{1, 9, 1}, cellOf(2, 1, 2, 3, 5, 7)), [][]int64{{1, 0, 0}, {0, 63, 5}, {0, 27, 2}}},
		{"two cells", meshOf([]int64{1, 1}, cellOf(0, 1, 0, 1, 1, 0), cellOf(0, 1, 2, 3, 5, 7)), [][]int64{{3, 2}, {7, 5}}},
		{"two cells the other way about", meshOf([]int64{1, 1}, cellOf(0, 1, 2, 3, 5, 7), cellOf(0, 1, 0, 1, 1, 0)), [][]int64{{5, 7}, {2, 3}}},
		{"no residues", meshOf([]int64{1 - p, p + 1}, cellOf(0, 1, -2, 3-p, 5+p, -7)), [][]int64{{p - 2, 3}, {5, p - 7}}},
	} {
		holdReadMesh(t, one.what, one.mesh, impl.ModRows{Rows: one.want})
		if told := readByWords(one.mesh); !sameRows(told.Rows, one.want) {
			t.Errorf("%s: the words tell %v", one.what, told)
		}
	}
	for side := 1; side <= 24; side++ {
		holdReadMesh(t, "plain", plainMesh(side), impl.ModRows{Rows: diagonalRows(side, 1)})
	}
}

// TestReadMeshIsWhatFiringDoes: a list that is fired comes out as the matrix times the list.
func TestReadMeshIsWhatFiringDoes(t *testing.T) {
	draw := numbers{state: 1512}
	for round := range 200 {
		side := int(draw.below(24)) + 1
		m := drawnMesh(&draw, side, int(draw.below(12)))
		switch round {
		case 0:
			m = drawnMesh(&draw, 24, 600)
		case 1:
			m = drawnMesh(&draw, 2, 600)
		case 2:
			m = drawnMesh(&draw, 1, 0)
		}
		side = len(m.Phases)
		holdReadMesh(t, "drawn", m, readByWords(m))
		if round > 2 && side < 9 {
			holdReadMesh(t, "by products", m, impl.ModRows{Rows: readByProducts(m)})
		}
		read := impl.ReadMesh(m)
		for range 3 {
			list := drawnWave(&draw, side)
			holdFire(t, "by the matrix", m, list, toldWave(timesList(read.Rows, list)...))
		}
	}
}
