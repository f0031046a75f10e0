package tests

import (
	"math"
	"math/big"
	"slices"
	"testing"

	"loop.example/g00049/impl"
)

func cellOf(i int64, j int64, a int64, b int64, c int64, d int64) impl.Cell {
	return impl.Cell{I: i, J: j, A: a, B: b, C: c, D: d}
}

func meshOf(phases []int64, cells ...impl.Cell) impl.Mesh {
	return impl.Mesh{Side: int64(len(phases)), Phases: phases, Cells: cells}
}

// plainMesh has phases of 1 and no cells.
func plainMesh(side int) impl.Mesh {
	return meshOf(slices.Repeat([]int64{1}, side))
}

func cellDetByWords(cell impl.Cell) int64 {
	return modDet(impl.ModPlate{A: cell.A, B: cell.B, C: cell.C, D: cell.D})
}

// meshCodeByWords asks for each code of all the mesh ahead of the next code.
func meshCodeByWords(m impl.Mesh) int64 {
	formless := slices.ContainsFunc(m.Cells, func(cell impl.Cell) bool {
		return min(cell.I, cell.J) < 0 || max(cell.I, cell.J) >= m.Side || cell.I == cell.J
	})
	nought := slices.ContainsFunc(m.Cells, func(cell impl.Cell) bool { return cellDetByWords(cell) == 0 })
	switch {
	case m.Side > 24 || len(m.Cells) > 600:
		return impl.ErrMany
	case m.Side < 1 || len(m.Phases) != int(m.Side) || formless:
		return impl.ErrForm
	case slices.Contains(residuesOf(m.Phases), 0) || nought:
		return impl.ErrZero
	}
	return impl.OK
}

// roomyMesh shares nothing with the mesh, and has room behind its ends.
func roomyMesh(m impl.Mesh) impl.Mesh {
	return impl.Mesh{Side: m.Side, Phases: roomy(m.Phases, 5), Cells: roomy(m.Cells, cellOf(0, 1, 2, 3, 4, 5))}
}

// allOfMesh is a copy with what stands behind its ends.
func allOfMesh(m impl.Mesh) impl.Mesh {
	return impl.Mesh{Side: m.Side, Phases: slices.Clone(m.Phases[:cap(m.Phases)]), Cells: slices.Clone(m.Cells[:cap(m.Cells)])}
}

func sameMesh(a impl.Mesh, b impl.Mesh) bool {
	return a.Side == b.Side && slices.Equal(a.Phases, b.Phases) && slices.Equal(a.Cells, b.Cells)
}

func sameMeshResult(a impl.MeshResult, b impl.MeshResult) bool {
	return a.Code == b.Code && sameMesh(a.Mesh, b.Mesh)
}

func noMesh(code int64) impl.MeshResult {
	return impl.MeshResult{Code: code}
}

func toldMesh(phases []int64, cells ...impl.Cell) impl.MeshResult {
	return impl.MeshResult{Mesh: meshOf(phases, cells...)}
}

// spoilMesh writes wherever a mesh's lists reach.
func spoilMesh(m impl.Mesh) {
	for i := range m.Phases[:cap(m.Phases)] {
		m.Phases[:cap(m.Phases)][i] = 77
	}
	for i := range m.Cells[:cap(m.Cells)] {
		m.Cells[:cap(m.Cells)][i] = cellOf(7, 7, 7, 7, 7, 7)
	}
}

// leaveMeshes tells meshes that are other ones when the call, and what it writes into answers, is over.
func leaveMeshes(t *testing.T, what string, meshes []impl.Mesh, call func()) {
	t.Helper()
	kept := []impl.Mesh{}
	for _, m := range meshes {
		kept = append(kept, allOfMesh(m))
	}
	call()
	for i, m := range meshes {
		if !sameMesh(allOfMesh(m), kept[i]) {
			t.Errorf("%s: mesh %d is changed, or shares memory with the answer: %s", what, i, brief(m))
		}
	}
}

// holdMesh asks twice and writes into the first answer; the second one may not show it.
func holdMesh(t *testing.T, what string, ask func() impl.MeshResult, want impl.MeshResult) {
	t.Helper()
	got, again := ask(), ask()
	if !sameMeshResult(got, want) {
		t.Errorf("%s: %s, want %s", what, brief(got), brief(want))
	}
	if got.Code != impl.OK && !sameMesh(got.Mesh, impl.Mesh{}) {
		t.Errorf("%s: code %d with a mesh", what, got.Code)
	}
	spoilMesh(got.Mesh)
	if !sameMeshResult(again, want) {
		t.Errorf("%s: %s when asked again, want %s", what, brief(again), brief(want))
	}
}

func holdMeshFault(t *testing.T, what string, m impl.Mesh, want int64) {
	t.Helper()
	for _, given := range []impl.Mesh{m, roomyMesh(m)} {
		leaveMeshes(t, what, []impl.Mesh{given}, func() {
			for range 2 {
				if got := impl.MeshFault(given); got != want {
					t.Errorf("%s: MeshFault(%s) = %d, want %d", what, brief(given), got, want)
				}
			}
		})
	}
	if told := meshCodeByWords(m); told != want {
		t.Errorf("%s: the words tell %d of %s, not %d", what, told, brief(m), want)
	}
}

// drawnCell has numbers of any size, and can be undone.
func drawnCell(draw *numbers, side int64) impl.Cell {
	for {
		list := drawnWave(draw, 4)
		cell := cellOf(draw.below(side), draw.below(side), list[0], list[1], list[2], list[3])
		if cell.I != cell.J && cellDetByWords(cell) != 0 {
			return cell
		}
	}
}

// drawnMesh is right; a mesh of one guide has no cells.
func drawnMesh(draw *numbers, side int, cells int) impl.Mesh {
	m := meshOf(drawnBeam(draw, side))
	for range cells {
		if side > 1 {
			m.Cells = append(m.Cells, drawnCell(draw, int64(side)))
		}
	}
	return m
}

// wrongMesh is a mesh that is told by its code.
type wrongMesh struct {
	what string
	mesh impl.Mesh
	code int64
}

// wrongMeshes have a fault each, of all kinds.
func wrongMeshes() []wrongMesh {
	const p = impl.Prime
	swap := cellOf(0, 1, 0, 1, 1, 0)
	two := []int64{1, 1}
	return []wrongMesh{
		{"nothing", impl.Mesh{}, impl.ErrForm},
		{"25 guides", plainMesh(25), impl.ErrMany},
		{"25 guides, no phases", impl.Mesh{Side: 25}, impl.ErrMany},
		{"the greatest side", impl.Mesh{Side: math.MaxInt64, Phases: two}, impl.ErrMany},
		{"the least side", impl.Mesh{Side: math.MinInt64, Phases: two}, impl.ErrForm},
		{"side -1", impl.Mesh{Side: -1, Phases: two}, impl.ErrForm},
		{"side 0, phases", impl.Mesh{Side: 0, Phases: two}, impl.ErrForm},
		{"601 cells", meshOf(two, slices.Repeat([]impl.Cell{swap}, 601)...), impl.ErrMany},
		{"a phase too few", impl.Mesh{Side: 2, Phases: []int64{1}}, impl.ErrForm},
		{"a phase too many", impl.Mesh{Side: 2, Phases: []int64{1, 1, 1}}, impl.ErrForm},
		{"phases nil", impl.Mesh{Side: 2}, impl.ErrForm},
		{"I is Side", meshOf(two, cellOf(2, 1, 0, 1, 1, 0)), impl.ErrForm},
		{"J is -1", meshOf(two, cellOf(0, -1, 0, 1, 1, 0)), impl.ErrForm},
		{"I is J", meshOf(two, cellOf(1, 1, 0, 1, 1, 0)), impl.ErrForm},
		{"a phase of 0", meshOf([]int64{1, 0}), impl.ErrZero},
		{"a phase of Prime", meshOf([]int64{p, 1}, swap), impl.ErrZero},
		{"a cell of 0", meshOf(two, swap, cellOf(0, 1, 1, 2, 2, 4)), impl.ErrZero},
	}
}

func TestMeshBounds(t *testing.T) {
	if impl.MaxCells != 600 {
		t.Error("MaxCells", impl.MaxCells)
	}
}

func TestMeshFaultTold(t *testing.T) {
	for _, one := range wrongMeshes() {
		holdMeshFault(t, one.what, one.mesh, one.code)
	}
	draw := numbers{state: 1500}
	for side := 1; side <= 24; side++ {
		holdMeshFault(t, "plain", plainMesh(side), impl.OK)
		holdMeshFault(t, "drawn", drawnMesh(&draw, side, 30), impl.OK)
	}
	holdMeshFault(t, "cells nil", impl.Mesh{Side: 1, Phases: []int64{1}}, impl.OK)
	holdMeshFault(t, "cells empty", impl.Mesh{Side: 1, Phases: []int64{-1}, Cells: []impl.Cell{}}, impl.OK)
}

func TestMeshFaultOfSides(t *testing.T) {
	for side, want := range map[int64]int64{
		1: impl.OK, 2: impl.OK, 23: impl.OK, 24: impl.OK, 25: impl.ErrMany, 26: impl.ErrMany, 1000: impl.ErrMany, 1<<32 + 2: impl.ErrMany, math.MaxInt64: impl.ErrMany, math.MaxInt64 - 1: impl.ErrMany,
		0: impl.ErrForm, -1: impl.ErrForm, -24: impl.ErrForm, -25: impl.ErrForm, -1<<32 + 2: impl.ErrForm, math.MinInt64: impl.ErrForm, math.MinInt64 + 2: impl.ErrForm,
	} {
		count := int(max(0, min(side, 30)))
		holdMeshFault(t, "its own phases", impl.Mesh{Side: side, Phases: slices.Repeat([]int64{1}, count)}, want)
		if want == impl.OK {
			want = impl.ErrForm
		}
		holdMeshFault(t, "one phase more", impl.Mesh{Side: side, Phases: slices.Repeat([]int64{1}, count+1)}, want)
		holdMeshFault(t, "one phase less", impl.Mesh{Side: side, Phases: slices.Repeat([]int64{1}, max(0, count-1))}, want)
		holdMeshFault(t, "no phases", impl.Mesh{Side: side}, want)
		holdMeshFault(t, "empty phases", impl.Mesh{Side: side, Phases: []int64{}}, want)
	}
}

func TestMeshFaultOfManyCells(t *testing.T) {
	swap := cellOf(0, 1, 0, 1, 1, 0)
	for count, want := range map[int]int64{0: impl.OK, 1: impl.OK, 2: impl.OK, 599: impl.OK, 600: impl.OK, 601: impl.ErrMany, 602: impl.ErrMany, 5000: impl.ErrMany} {
		holdMeshFault(t, "cells", meshOf([]int64{1, 1}, slices.Repeat([]impl.Cell{swap}, count)...), want)
	}
	wrong := cellOf(5, 5, 0, 0, 0, 0)
	holdMeshFault(t, "all wrong", meshOf([]int64{0, 0}, slices.Repeat([]impl.Cell{wrong}, 601)...), impl.ErrMany)
	for _, side := range []int64{math.MinInt64, -1, 0, 1, 24, 25, math.MaxInt64} {
		holdMeshFault(t, "601 cells and a side", impl.Mesh{Side: side, Cells: slices.Repeat([]impl.Cell{swap}, 601)}, impl.ErrMany)
	}
}

func TestMeshFaultOfGuides(t *testing.T) {
	for _, side := range []int64{1, 2, 3, 24} {
		places := []int64{math.MinInt64, -side, -2, -1, 0, 1, side - 2, side - 1, side, side + 1, 24, 25, 1 << 32, math.MaxInt64}
		for _, i := range places {
			for _, j := range places {
				want := int64(impl.ErrForm)
				if i >= 0 && i < side && j >= 0 && j < side && i != j {
					want = impl.OK
				}
				m := plainMesh(int(side))
				m.Cells = []impl.Cell{cellOf(i, j, 1, 2, 3, 4)}
				holdMeshFault(t, "one cell", m, want)
				if side > 1 {
					m.Cells = []impl.Cell{cellOf(1, 0, 1, 0, 0, 1), cellOf(0, side-1, 2, 0, 0, 1), cellOf(i, j, 1, 2, 3, 4)}
					holdMeshFault(t, "the last cell", m, want)
					slices.Reverse(m.Cells)
					holdMeshFault(t, "the first cell", m, want)
				}
			}
		}
	}
}

func TestMeshFaultOfPhases(t *testing.T) {
	for _, side := range []int{1, 2, 24} {
		for place := range side {
			for _, number := range anyNumbers() {
				want := int64(impl.OK)
				if residue(big.NewInt(number)) == 0 {
					want = impl.ErrZero
				}
				m := plainMesh(side)
				m.Phases[place] = number
				holdMeshFault(t, "a phase", m, want)
			}
		}
	}
	for _, nought := range noughts() {
		holdMeshFault(t, "all phases", meshOf([]int64{nought, nought, nought}), impl.ErrZero)
	}
}

func TestMeshFaultOfCellsOfNought(t *testing.T) {
	const p, least, most = impl.Prime, math.MinInt64, math.MaxInt64
	over := func(a int64, d int64, b int64) int64 { // the C that makes A D and B C the same
		return residue(bigOver(bigTimes(bigOf(a), bigOf(d)), bigOf(b)))
	}
	for _, one := range [][4]int64{
		{0, 0, 0, 0}, {1, 0, 0, 0}, {0, 1, 0, 0}, {0, 0, 1, 0}, {0, 0, 0, 1}, {1, 1, 1, 1}, {1, 2, 2, 4}, {2, 3, 4, 6}, {1, 0, 7, 0}, {1, 7, 0, 0}, {0, 7, 0, 1}, {0, 0, 7, 1},
		{p, 5, 0, 1}, {1, p, 5, -p}, {p + 1, 1, 1, 1 - p}, {-1, 1, 1, -1}, {-1, -1, 1, 1}, {p - 1, 1, -1, p + 1}, {2 * p, 3 * p, 5 * p, 7 * p},
		{least, least, least, least}, {most, most, most, most}, {least, least, most, most}, {least, most, least, most}, {least, least, 1, 1}, {1, least, 1, least}, {1, 1, least, least}, {most, 1, most, 1},
		{least, most, over(least, most, most), most}, {most, least, over(most, most, least), most}, {least, least, over(least, 3, least) + p, 3}, {least, most, over(least, least, most) - 5*p, least},
	} {
		for _, m := range []impl.Mesh{
			meshOf([]int64{1, 1}, cellOf(0, 1, one[0], one[1], one[2], one[3])),
			meshOf([]int64{3, 1, 2}, cellOf(0, 1, 1, 0, 0, 1), cellOf(2, 0, one[0], one[1], one[2], one[3]), cellOf(0, 1, 1, 0, 0, 1)),
		} {
			holdMeshFault(t, "a cell of nought", m, impl.ErrZero)
		}
	}
	// Products that would be 0 modulo 2^64, and opposites that there are none of, are no noughts.
	for _, one := range [][4]int64{
		{1 << 32, 0, 0, 1 << 32}, {0, 1 << 40, 1 << 40, 0}, {1 << 32, 1 << 33, 1 << 33, 1 << 32}, {least, 0, 0, 2}, {least, least, 1, -1}, {1, least, 1, 1}, {least, most, most, least}, {least, 1, 1, most}, {1, 1, -1, 1}, {1, 1, p - 1, 1},
	} {
		holdMeshFault(t, "no cell of nought", meshOf([]int64{1, 1}, cellOf(0, 1, one[0], one[1], one[2], one[3])), impl.OK)
	}
	draw := numbers{state: 1501}
	for range 2000 {
		list := drawnWave(&draw, 4)
		m := meshOf([]int64{1, 1, 1}, cellOf(0, 1, list[0], list[1], list[2], list[3]))
		holdMeshFault(t, "drawn", m, meshCodeByWords(m))
	}
}

// TestMeshFaultsInTheirOrder: the kinds of faults come one after the other, wherever in the mesh they are.
func TestMeshFaultsInTheirOrder(t *testing.T) {
	swap, nought := cellOf(0, 1, 0, 1, 1, 0), cellOf(0, 1, 1, 1, 1, 1)
	for _, astray := range []impl.Cell{cellOf(0, 2, 1, 0, 0, 1), cellOf(-1, 0, 1, 0, 0, 1), cellOf(1, 1, 1, 0, 0, 1), cellOf(math.MaxInt64, math.MinInt64, 0, 0, 0, 0)} {
		holdMeshFault(t, "a wrong form behind a phase of 0", meshOf([]int64{0, 1}, swap, astray), impl.ErrForm)
		holdMeshFault(t, "a wrong form behind a cell of nought", meshOf([]int64{1, 1}, nought, swap, astray), impl.ErrForm)
		holdMeshFault(t, "a wrong form ahead of a cell of nought", meshOf([]int64{1, 1}, astray, nought), impl.ErrForm)
		holdMeshFault(t, "a wrong form behind both", meshOf([]int64{1, 0}, nought, astray), impl.ErrForm)
		holdMeshFault(t, "a wrong form and too many guides", impl.Mesh{Side: 25, Phases: []int64{0}, Cells: []impl.Cell{nought, astray}}, impl.ErrMany)
		holdMeshFault(t, "a wrong form and too many cells", impl.Mesh{Side: 2, Phases: []int64{0}, Cells: append(slices.Repeat([]impl.Cell{nought}, 600), astray)}, impl.ErrMany)
		holdMeshFault(t, "phases too few and a wrong form", impl.Mesh{Side: 2, Phases: []int64{0}, Cells: []impl.Cell{astray}}, impl.ErrForm)
	}
	holdMeshFault(t, "phases too few and 0", impl.Mesh{Side: 3, Phases: []int64{0, 1}}, impl.ErrForm)
	holdMeshFault(t, "phases too few and a cell of nought", impl.Mesh{Side: 3, Phases: []int64{1, 1}, Cells: []impl.Cell{nought}}, impl.ErrForm)
	holdMeshFault(t, "a phase and a cell of nought", meshOf([]int64{1, 0}, nought), impl.ErrZero)
	holdMeshFault(t, "too many guides and a phase of 0", meshOf(make([]int64, 25)), impl.ErrMany)
	holdMeshFault(t, "no guides and a cell", impl.Mesh{Cells: []impl.Cell{swap}}, impl.ErrForm)
	draw := numbers{state: 1502}
	for range 3000 {
		m := drawnMesh(&draw, int(draw.below(4))+22, int(draw.below(3)))
		if draw.below(3) == 0 {
			m.Cells = append(m.Cells, slices.Repeat([]impl.Cell{swap}, 596+int(draw.below(5)))...)
		}
		if draw.below(3) == 0 {
			m.Side += draw.below(3) - 1
		}
		if draw.below(3) == 0 {
			m.Phases[draw.below(int64(len(m.Phases)))] = noughts()[draw.below(9)]
		}
		if draw.below(3) == 0 && len(m.Cells) > 0 {
			m.Cells[draw.below(int64(len(m.Cells)))].I = draw.below(27) - 1
		}
		if draw.below(3) == 0 && len(m.Cells) > 0 {
			m.Cells[draw.below(int64(len(m.Cells)))] = nought
		}
		if got, want := impl.MeshFault(m), meshCodeByWords(m); got != want {
			t.Errorf("MeshFault(%s) = %d, want %d", brief(m), got, want)
		}
	}
}
