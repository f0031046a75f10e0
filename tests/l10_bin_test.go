package tests

import (
	"math"
	"slices"
	"testing"

	"loop.example/g00049/impl"
)

func binsByWords(cells []int64, side int64, by int64) impl.FluxResult {
	if side < 1 || side > 20 || int64(len(cells)) != side*side || by < 1 || by > side || side%by != 0 {
		return noFlux(impl.ErrForm)
	}
	if slices.ContainsFunc(cells, func(n int64) bool { return n < 0 || n > 1000000 }) {
		return noFlux(impl.ErrRange)
	}
	bins := impl.FluxResult{}
	for top := int64(0); top < side; top += by {
		for left := int64(0); left < side; left += by {
			sum := int64(0)
			for row := top; row < top+by; row++ {
				sum += fluxOf(cells[row*side+left : row*side+left+by])
			}
			bins.Cells = append(bins.Cells, sum)
		}
	}
	return bins
}

// holdBins asks twice, for answers in memory of their own; the cells are left alone, and none of their sum is lost.
func holdBins(t *testing.T, what string, cells []int64, side int64, by int64, want impl.FluxResult) {
	t.Helper()
	kept := slices.Clone(cells[:cap(cells)])
	got, again := impl.BinMap(cells, side, by), impl.BinMap(cells, side, by)
	if !sameFlux(got, want) || !sameFlux(again, want) {
		t.Errorf("%s: BinMap(%s, %d, %d) = %s, then %s, want %s", what, brief(cells), side, by, brief(got), brief(again), brief(want))
	}
	if !slices.Equal(kept, cells[:cap(cells)]) {
		t.Errorf("%s: BinMap changes its cells", what)
	}
	if got.Code == impl.OK && fluxOf(got.Cells) != fluxOf(cells) {
		t.Errorf("%s: BinMap(%s, %d, %d) = %s: the sum is lost", what, brief(cells), side, by, brief(got))
	}
	apart(t, [][]int64{got.Cells}, [][]int64{cells, again.Cells})
}

func drawnCells(draw *numbers, count int64) []int64 {
	cells := make([]int64, count)
	for i := range cells {
		cells[i] = draw.below(1000001)
	}
	return cells
}

func TestBinMapTold(t *testing.T) {
	binned := func(cells ...int64) impl.FluxResult { return impl.FluxResult{Cells: cells} }
	holdBins(t, "one", []int64{7}, 1, 1, binned(7))
	holdBins(t, "four", []int64{1, 2, 3, 4}, 2, 1, binned(1, 2, 3, 4))
	holdBins(t, "four", roomy([]int64{1, 2, 3, 4}, 9), 2, 2, binned(10))
	sixteen := []int64{1, 2, 3, 4, 5, 6, 7, 8, 9, 10, 11, 12, 13, 14, 15, 16}
	holdBins(t, "sixteen", sixteen, 4, 1, binned(sixteen...))
	holdBins(t, "sixteen", sixteen, 4, 2, binned(14, 22, 46, 54))
	holdBins(t, "sixteen", sixteen, 4, 4, binned(136))
	// Each cell alone is found in one square.
	for place := range int64(36) {
		cells := make([]int64, 36)
		cells[place] = 5
		for _, by := range []int64{1, 2, 3, 6} {
			wide := 6 / by
			want := impl.FluxResult{Cells: make([]int64, wide*wide)}
			want.Cells[place/6/by*wide+place%6/by] = 5
			holdBins(t, "alone", cells, 6, by, want)
		}
	}
}

func TestBinMapSides(t *testing.T) {
	draw := numbers{state: 1051}
	form := noFlux(impl.ErrForm)
	for side := int64(1); side <= 20; side++ {
		cells := drawnCells(&draw, side*side)
		for by := int64(-2); by <= side+2; by++ {
			want := binsByWords(cells, side, by)
			divides := by >= 1 && by <= side && side/max(by, 1)*by == side
			if (want.Code == impl.OK) != divides {
				t.Error(side, by, want.Code)
			}
			holdBins(t, "by", cells, side, by, want)
		}
		for _, by := range []int64{math.MinInt64, math.MaxInt64, -side, 2 * side, -1 << 32, 1 << 32} {
			holdBins(t, "no by", cells, side, by, form)
		}
		for _, count := range []int64{0, 1, side, side*side - 1, side*side + 1, side*side + side, 400, 401, 441} {
			if count != side*side {
				holdBins(t, "other many cells", drawnCells(&draw, count), side, 1, form)
				holdBins(t, "other many cells", drawnCells(&draw, count), side, side, form)
			}
		}
		holdBins(t, "no cells", nil, side, 1, form)
		holdBins(t, "room behind", cells[:side*side-1], side, 1, form)
	}
	// Squares of some sides are 0, or 1, modulo 2^64.
	for _, side := range []int64{0, -1, 21, 22, -20, math.MinInt64, math.MaxInt64, 1 << 32, -1 << 32, 1 << 62} {
		for _, count := range []int64{0, 1, 400, 441, 484} {
			for _, by := range []int64{1, side, 0, 2, 7} {
				holdBins(t, "no side", make([]int64, count), side, by, form)
			}
		}
	}
}

func TestBinMapCells(t *testing.T) {
	form, outside := noFlux(impl.ErrForm), noFlux(impl.ErrRange)
	for _, side := range []int64{1, 2, 6, 20} {
		full := slices.Repeat([]int64{1000000}, int(side*side))
		holdBins(t, "full", full, side, side, impl.FluxResult{Cells: []int64{1000000 * side * side}})
		holdBins(t, "full", full, side, 1, impl.FluxResult{Cells: full})
		holdBins(t, "empty", make([]int64, side*side), side, side, impl.FluxResult{Cells: []int64{0}})
		for _, place := range []int64{0, side - 1, side * side / 2, side*side - 1} {
			for _, wrong := range []int64{-1, 1000001, math.MinInt64, math.MaxInt64, -1000000} {
				cells := make([]int64, side*side)
				cells[place] = wrong
				holdBins(t, "outside", cells, side, 1, outside)
				holdBins(t, "outside", cells, side, side, outside)
				holdBins(t, "outside, no by", cells, side, 0, form)
				holdBins(t, "outside, no by", cells, side, side+1, form)
				holdBins(t, "outside, too many", append(cells, wrong), side, 1, form)
				holdBins(t, "outside, too few", cells[:side*side-1], side, 1, form)
				holdBins(t, "outside, no side", cells, 0, 1, form)
				holdBins(t, "outside, no side", cells, 21, 1, form)
			}
			for _, right := range []int64{0, 1, 999999, 1000000} {
				cells := make([]int64, side*side)
				cells[place] = right
				holdBins(t, "within", cells, side, side, impl.FluxResult{Cells: []int64{right}})
			}
		}
	}
	holdBins(t, "does not divide it", []int64{-1, 0, 0, 0, 0, 0, 0, 0, 0}, 3, 2, form)
	holdBins(t, "one above and one below", []int64{-1, 1, 1, 1000001}, 2, 2, outside)
}

// TestBinsOfBins: squares of squares are squares.
func TestBinsOfBins(t *testing.T) {
	draw := numbers{state: 1052}
	for range 300 {
		side := 1 + draw.below(20)
		cells := make([]int64, side*side)
		for i := range cells {
			cells[i] = draw.below(1000)
		}
		for by := int64(1); by <= side; by++ {
			if side%by != 0 {
				continue
			}
			once := impl.BinMap(cells, side, by)
			for again := int64(1); again <= side/by; again++ {
				if side/by%again == 0 {
					holdBins(t, "twice", once.Cells, side/by, again, impl.BinMap(cells, side, by*again))
				}
			}
		}
	}
}

// TestBinsAreBooksOfGreaterCells: cells of a power of two lie in the greater ones, so that both books tell the same.
func TestBinsAreBooksOfGreaterCells(t *testing.T) {
	draw := numbers{state: 1053}
	for range 300 {
		list := drawnDots(&draw, int(draw.below(401)), 12)
		by := []int64{1, 2, 4}[draw.below(3)]
		wide := 1 + draw.below(20/by)
		fine, coarse := impl.FluxBook(list, wide*by, 1), impl.FluxBook(list, wide, float64(by))
		if fine.Lost != coarse.Lost {
			t.Error(fine.Lost, coarse.Lost)
		}
		holdBins(t, "books", fine.Cells, wide*by, by, impl.FluxResult{Cells: coarse.Cells})
	}
}
