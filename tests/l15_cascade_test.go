package tests

import (
	"math"
	"slices"
	"testing"

	"loop.example/g00049/impl"
)

func holdSwap(t *testing.T, side int64, i int64, j int64, want impl.MeshResult) {
	t.Helper()
	holdMesh(t, "SwapGuides of "+brief([]int64{side, i, j}), func() impl.MeshResult { return impl.SwapGuides(side, i, j) }, want)
}

func holdCascade(t *testing.T, what string, a impl.Mesh, b impl.Mesh, want impl.MeshResult) {
	t.Helper()
	first, second := roomyMesh(a), roomyMesh(b)
	leaveMeshes(t, what+", CascadeMeshes", []impl.Mesh{first, second}, func() {
		holdMesh(t, what+", CascadeMeshes of "+brief(a)+" and "+brief(b), func() impl.MeshResult { return impl.CascadeMeshes(first, second) }, want)
	})
}

func holdMeshDet(t *testing.T, what string, m impl.Mesh, want impl.ModList) {
	t.Helper()
	given := roomyMesh(m)
	leaveMeshes(t, what+", MeshDet", []impl.Mesh{given}, func() {
		ask := func() impl.WaveResult {
			told := impl.MeshDet(given)
			return impl.WaveResult{Code: told.Code, List: told.List}
		}
		holdWave(t, what+", MeshDet of "+brief(m), ask, impl.WaveResult{Code: want.Code, List: want.List})
	})
}

// meshDetByWords multiplies big numbers, and takes the residue last.
func meshDetByWords(m impl.Mesh) int64 {
	product := bigOf(1)
	for _, phase := range m.Phases {
		product = bigTimes(product, bigOf(phase))
	}
	for _, cell := range m.Cells {
		product = bigTimes(product, bigOf(cellDetByWords(cell)))
	}
	return residue(product)
}

func oneNumber(number int64) impl.ModList {
	return impl.ModList{List: []int64{number}}
}

func TestSwapGuidesTold(t *testing.T) {
	holdSwap(t, 2, 0, 1, toldMesh([]int64{1, 1}, cellOf(0, 1, 0, 1, 1, 0)))
	holdSwap(t, 2, 1, 0, toldMesh([]int64{1, 1}, cellOf(1, 0, 0, 1, 1, 0)))
	holdSwap(t, 3, 2, 0, toldMesh([]int64{1, 1, 1}, cellOf(2, 0, 0, 1, 1, 0)))
	holdSwap(t, 1, 0, 0, toldMesh([]int64{1}))
	holdSwap(t, 2, 1, 1, toldMesh([]int64{1, 1}))
	holdSwap(t, 24, 23, 23, impl.MeshResult{Mesh: plainMesh(24)})
	holdSwap(t, 2, 0, 2, noMesh(impl.ErrForm))
}

func TestSwapGuidesChangesTwoAbout(t *testing.T) {
	for side := range int64(25) {
		for i := range side {
			for j := range side {
				want := plainMesh(int(side))
				if i != j {
					want.Cells = []impl.Cell{cellOf(i, j, 0, 1, 1, 0)}
				}
				holdSwap(t, side, i, j, impl.MeshResult{Mesh: want})
				list := []int64{}
				for k := range side {
					list = append(list, 100*k+7)
				}
				out := impl.FireMesh(impl.SwapGuides(side, i, j).Mesh, list)
				list[i], list[j] = list[j], list[i]
				if !sameWave(out, toldWave(list...)) {
					t.Errorf("side %d: %d and %d are not changed about: %v", side, i, j, out)
				}
			}
		}
	}
}

func TestSwapGuidesOfWrongOnes(t *testing.T) {
	for _, side := range []int64{math.MinInt64, math.MinInt64 + 1, -25, -24, -2, -1, 0, 25, 26, 1000, 1<<32 + 2, math.MaxInt64 - 1, math.MaxInt64} {
		for _, i := range []int64{math.MinInt64, -1, 0, 1, 24, side - 1, math.MaxInt64} {
			holdSwap(t, side, i, 0, noMesh(impl.ErrForm))
			holdSwap(t, side, 0, i, noMesh(impl.ErrForm))
			holdSwap(t, side, i, i, noMesh(impl.ErrForm))
		}
	}
	for _, side := range []int64{1, 2, 3, 23, 24} {
		for _, wrong := range []int64{math.MinInt64, -side, -1, side, side + 1, 24, 25, 1 << 32, math.MaxInt64} {
			for _, right := range []int64{0, side - 1} {
				holdSwap(t, side, wrong, right, noMesh(impl.ErrForm))
				holdSwap(t, side, right, wrong, noMesh(impl.ErrForm))
			}
			holdSwap(t, side, wrong, wrong, noMesh(impl.ErrForm))
		}
	}
}

func TestCascadeMeshesTold(t *testing.T) {
	const p = impl.Prime
	swap, add := cellOf(0, 1, 0, 1, 1, 0), cellOf(0, 1, 1, 0, 1, 1)
	two := []int64{1, 1}
	holdCascade(t, "one guide", meshOf([]int64{3}), meshOf([]int64{-5}), toldMesh([]int64{p - 15}))
	holdCascade(t, "phases", meshOf([]int64{2, 3}), meshOf([]int64{5, 7}), toldMesh([]int64{10, 21}))
	// Swapped, then added: 0 1; 1 1. Added, then swapped: 1 1; 1 0.
	holdCascade(t, "swapped, then added", meshOf(two, swap), meshOf(two, add), toldMesh(two, cellOf(1, 0, 1, 0, 1, 1), swap))
	holdCascade(t, "added, then swapped", meshOf(two, add), meshOf(two, swap), toldMesh([]int64{1, p - 1}, cellOf(1, 0, 1, 0, p-1, 1), add))
	holdCascade(t, "swapped twice", meshOf(two, swap), meshOf(two, swap), toldMesh(two))
	holdCascade(t, "phases, then a swap", meshOf([]int64{2, 3}), meshOf(two, swap), toldMesh([]int64{2, 3}, swap))
	holdCascade(t, "a swap, then phases", meshOf(two, swap), meshOf([]int64{2, 3}), toldMesh([]int64{3, 2}, swap))
	m := roomyMesh(meshOf([]int64{2, 3}, add))
	holdMesh(t, "with itself", func() impl.MeshResult { return impl.CascadeMeshes(m, m) }, programByWords([][]int64{{4, 0}, {10, 9}}))
}

func TestCascadeMeshesOfWrongOnes(t *testing.T) {
	draw := numbers{state: 1530}
	for _, one := range wrongMeshes() {
		for _, side := range []int{1, 2, 3, 24} {
			right := drawnMesh(&draw, side, 3)
			holdCascade(t, one.what, one.mesh, right, noMesh(one.code))
			holdCascade(t, one.what, right, one.mesh, noMesh(one.code))
		}
		for _, other := range wrongMeshes() {
			holdCascade(t, one.what+", "+other.what, one.mesh, other.mesh, noMesh(one.code))
		}
	}
	for _, a := range []int{1, 2, 3, 12, 23, 24} {
		for _, b := range []int{1, 2, 3, 12, 23, 24} {
			if a != b {
				holdCascade(t, "unlike wide", drawnMesh(&draw, a, 2), drawnMesh(&draw, b, 2), noMesh(impl.ErrForm))
			}
		}
	}
}

// TestCascadeMeshesGoesThroughTheFirstFirst: a list goes through the cascade as through a, then b; the other way about it comes out otherwise.
func TestCascadeMeshesGoesThroughTheFirstFirst(t *testing.T) {
	draw := numbers{state: 1531}
	otherwise := 0
	for round := range 150 {
		side := int(draw.below(24)) + 1
		a, b := drawnMesh(&draw, side, int(draw.below(12))), drawnMesh(&draw, side, int(draw.below(12)))
		if round == 0 {
			side, a, b = 24, drawnMesh(&draw, 24, 600), drawnMesh(&draw, 24, 600)
		}
		holdCascade(t, "drawn", a, b, programByWords(productSlowly(readByWords(b).Rows, readByWords(a).Rows)))
		both := impl.CascadeMeshes(a, b)
		if !sameMeshResult(both, impl.ProgramMesh(impl.MulRows(impl.ReadMesh(b).Rows, impl.ReadMesh(a).Rows).Rows)) {
			t.Errorf("CascadeMeshes of %s and %s: %s", brief(a), brief(b), brief(both))
		}
		for range 3 {
			list := drawnWave(&draw, side)
			want := impl.FireMesh(b, impl.FireMesh(a, list).List)
			holdFire(t, "cascade", both.Mesh, list, want)
			if !sameWave(want, impl.FireMesh(a, impl.FireMesh(b, list).List)) {
				otherwise++
			}
		}
	}
	if otherwise < 200 {
		t.Errorf("the order is seen %d times only", otherwise)
	}
}

func TestCascadeMeshesWithWhatUndoes(t *testing.T) {
	draw := numbers{state: 1532}
	for side := 1; side <= 24; side++ {
		m := drawnMesh(&draw, side, 8)
		undo := impl.UndoMesh(m).Mesh
		holdCascade(t, "undone", m, undo, impl.MeshResult{Mesh: plainMesh(side)})
		holdCascade(t, "undone ahead", undo, m, impl.MeshResult{Mesh: plainMesh(side)})
		a, b := drawnMesh(&draw, side, 5), drawnMesh(&draw, side, 5)
		left := impl.CascadeMeshes(impl.CascadeMeshes(m, a).Mesh, b)
		right := impl.CascadeMeshes(m, impl.CascadeMeshes(a, b).Mesh)
		if left.Code != impl.OK || !sameMeshResult(left, right) {
			t.Errorf("side %d: three meshes hang on which two go together first", side)
		}
	}
}

func TestMeshDetTold(t *testing.T) {
	const p, least, most = impl.Prime, math.MinInt64, math.MaxInt64
	holdMeshDet(t, "one guide", meshOf([]int64{7}), oneNumber(7))
	holdMeshDet(t, "one guide, below 0", meshOf([]int64{-7}), oneNumber(p-7))
	holdMeshDet(t, "phases", meshOf([]int64{2, 3, 5}), oneNumber(30))
	holdMeshDet(t, "phases, one below 0", meshOf([]int64{2, -3, 5 + p}), oneNumber(p-30))
	holdMeshDet(t, "a cell", meshOf([]int64{1, 1}, cellOf(0, 1, 2, 3, 5, 11)), oneNumber(7))
	holdMeshDet(t, "a cell the other way about", meshOf([]int64{1, 1}, cellOf(1, 0, 2, 3, 5, 11)), oneNumber(7))
	holdMeshDet(t, "a cell below 0", meshOf([]int64{1, 1}, cellOf(0, 1, 2, 3, 5, 7)), oneNumber(p-1))
	holdMeshDet(t, "cells", meshOf([]int64{1, 1, 1}, cellOf(0, 1, 2, 3, 5, 11), cellOf(2, 1, -2, p, 5, -11)), oneNumber(154))
	holdMeshDet(t, "phases and cells", meshOf([]int64{2, 3}, cellOf(0, 1, 0, 1, 1, 0), cellOf(0, 1, 1, 0, 9, 1), cellOf(0, 1, 2, 0, 0, 2)), oneNumber(p-24))
	holdMeshDet(t, "the bounds", meshOf([]int64{least, most}), oneNumber(residue(bigTimes(bigOf(least), bigOf(most)))))
	holdMeshDet(t, "the bounds of a cell", meshOf([]int64{1, 1}, cellOf(0, 1, 0, least, 1, 0)), oneNumber(residue(bigTimes(bigOf(least), bigOf(-1)))))
	holdMeshDet(t, "the bounds of a cell's others", meshOf([]int64{1, 1}, cellOf(0, 1, least, least, most, least)), oneNumber(modDet(impl.ModPlate{A: least, B: least, C: most, D: least})))
	holdMeshDet(t, "600 swaps", meshOf([]int64{1, 1}, slices.Repeat([]impl.Cell{cellOf(0, 1, 0, 1, 1, 0)}, 600)...), oneNumber(1))
	holdMeshDet(t, "599 swaps", meshOf([]int64{1, 1}, slices.Repeat([]impl.Cell{cellOf(0, 1, 0, 1, 1, 0)}, 599)...), oneNumber(p-1))
	for side := 1; side <= 24; side++ {
		holdMeshDet(t, "plain", plainMesh(side), oneNumber(1))
	}
	for _, one := range wrongMeshes() {
		holdMeshDet(t, one.what, one.mesh, impl.ModList{Code: one.code})
	}
}

func TestMeshDetByWords(t *testing.T) {
	draw := numbers{state: 1533}
	for range 300 {
		side := int(draw.below(24)) + 1
		m := drawnMesh(&draw, side, int(draw.below(20)))
		holdMeshDet(t, "drawn", m, oneNumber(meshDetByWords(m)))
		if side < 7 {
			holdMeshDet(t, "by the matrix", m, oneNumber(residue(determinant(readByWords(m).Rows))))
		}
	}
	m := drawnMesh(&draw, 24, 600)
	holdMeshDet(t, "600 cells", m, oneNumber(meshDetByWords(m)))
}

func TestMeshDetsMultiply(t *testing.T) {
	draw := numbers{state: 1534}
	for side := 1; side <= 24; side++ {
		for range 3 {
			a, b := drawnMesh(&draw, side, 6), drawnMesh(&draw, side, 6)
			product := residue(bigTimes(bigOf(meshDetByWords(a)), bigOf(meshDetByWords(b))))
			holdMeshDet(t, "of a cascade", impl.CascadeMeshes(a, b).Mesh, oneNumber(product))
			holdMeshDet(t, "undone", impl.UndoMesh(a).Mesh, oneNumber(inverseByBig(meshDetByWords(a))))
			holdMeshDet(t, "programmed", impl.ProgramMesh(impl.ReadMesh(a).Rows).Mesh, oneNumber(meshDetByWords(a)))
		}
		for i := range int64(side) {
			for j := range int64(side) {
				want := int64(impl.Prime - 1)
				if i == j {
					want = 1
				}
				holdMeshDet(t, "of a swap", impl.SwapGuides(int64(side), i, j).Mesh, oneNumber(want))
			}
		}
	}
}
