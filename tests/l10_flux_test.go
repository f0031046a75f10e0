package tests

import (
	"math"
	"math/big"
	"slices"
	"testing"

	"loop.example/g00049/impl"
)

// cellByWords looks for the greatest whole number not above the quotient; -1 where there is none below side.
func cellByWords(place float64, side int64, cell float64) int64 {
	half := onceQuotient(onceProduct(float64(side), cell), 2)
	from := onceSum(place, half)
	if math.IsNaN(from) || from < 0 {
		return -1
	}
	quotient := onceQuotient(from, cell)
	for number := range side {
		if quotient >= float64(number) && quotient < float64(number+1) {
			return number
		}
	}
	return -1
}

func bookByWords(list []impl.Dot, side int64, cell float64) impl.FluxResult {
	if len(list) > 400 {
		return noFlux(impl.ErrMany)
	}
	if side < 1 || side > 20 || math.IsNaN(cell) || cell <= 0 || cell > 1000 {
		return noFlux(impl.ErrForm)
	}
	book := impl.FluxResult{Cells: make([]int64, side*side)}
	for _, d := range list {
		column, row := cellByWords(d.X, side, cell), cellByWords(d.Y, side, cell)
		if column == -1 || row == -1 {
			book.Lost++
			continue
		}
		book.Cells[row*side+column]++
	}
	return book
}

func noFlux(code int64) impl.FluxResult {
	return impl.FluxResult{Code: code}
}

func sameFlux(a impl.FluxResult, b impl.FluxResult) bool {
	return a.Code == b.Code && slices.Equal(a.Cells, b.Cells) && a.Lost == b.Lost
}

// holdBook asks twice, for answers in memory of their own; the dots are left alone, and none of them escapes.
func holdBook(t *testing.T, what string, list []impl.Dot, side int64, cell float64, want impl.FluxResult) {
	t.Helper()
	kept := bitsOfDots(list)
	got, again := impl.FluxBook(list, side, cell), impl.FluxBook(list, side, cell)
	if !sameFlux(got, want) || !sameFlux(again, want) {
		t.Errorf("%s: FluxBook(%s, %d, %v) = %s, then %s, want %s", what, brief(list), side, cell, brief(got), brief(again), brief(want))
	}
	if !slices.Equal(kept, bitsOfDots(list)) {
		t.Errorf("%s: FluxBook changes its dots", what)
	}
	if got.Code == impl.OK && fluxOf(got.Cells)+got.Lost != int64(len(list)) {
		t.Errorf("%s: FluxBook(%s, %d, %v) = %s: of %d dots", what, brief(list), side, cell, brief(got), len(list))
	}
	apart(t, [][]int64{got.Cells}, [][]int64{again.Cells})
}

func fluxOf(cells []int64) int64 {
	sum := int64(0)
	for _, n := range cells {
		sum += n
	}
	return sum
}

// inCell is the book of one dot, or of so many alike.
func inCell(side int64, row int64, column int64, count int64) impl.FluxResult {
	book := impl.FluxResult{Cells: make([]int64, side*side)}
	book.Cells[row*side+column] = count
	return book
}

func inNone(side int64, count int64) impl.FluxResult {
	return impl.FluxResult{Cells: make([]int64, side*side), Lost: count}
}

func TestFluxBookHowMany(t *testing.T) {
	dot, far := impl.Dot{X: 0.25, Y: -0.25}, impl.Dot{X: 9}
	for _, side := range []int64{1, 2, 3, 19, 20} {
		holdBook(t, "none", nil, side, 1, inNone(side, 0))
		holdBook(t, "none", []impl.Dot{}, side, 1, inNone(side, 0))
		holdBook(t, "none", []impl.Dot{dot, dot}[:0], side, 1, inNone(side, 0))
	}
	for _, count := range []int{1, 2, 64, 399, 400} {
		holdBook(t, "alike", slices.Repeat([]impl.Dot{dot}, count), 2, 1, inCell(2, 0, 1, int64(count)))
		holdBook(t, "lost", slices.Repeat([]impl.Dot{far}, count), 2, 1, inNone(2, int64(count)))
		holdBook(t, "room behind", roomy(slices.Repeat([]impl.Dot{dot}, count), far), 2, 1, inCell(2, 0, 1, int64(count)))
	}
	for _, count := range []int{401, 402, 5000} {
		list := slices.Repeat([]impl.Dot{dot}, count)
		holdBook(t, "too many", list, 2, 1, noFlux(impl.ErrMany))
		holdBook(t, "too many, no side", list, 0, 1, noFlux(impl.ErrMany))
		holdBook(t, "too many, no cell", list, 2, math.NaN(), noFlux(impl.ErrMany))
		holdBook(t, "too many, neither", list, 21, 0, noFlux(impl.ErrMany))
		holdBook(t, "room for too many", list[:400], 2, 1, inCell(2, 0, 1, 400))
	}
}

func TestFluxBookSidesAndCells(t *testing.T) {
	inf := math.Inf(1)
	list := []impl.Dot{{}}
	for _, side := range []int64{0, -1, 21, 22, -20, math.MinInt64, math.MaxInt64, 1 << 32, 1 << 62, -1 << 32} {
		for _, cell := range []float64{1, 1000, 0, math.NaN()} {
			holdBook(t, "no side", list, side, cell, noFlux(impl.ErrForm))
			holdBook(t, "no side", nil, side, cell, noFlux(impl.ErrForm))
		}
	}
	for _, side := range []int64{1, 2, 19, 20} {
		for _, cell := range []float64{0, nought(), -5e-324, -1, -1000, math.NaN(), math.Float64frombits(1<<63 + impl.NaNBits), inf, -inf, math.Nextafter(1000, 2000), 1001, 1e308} {
			holdBook(t, "no cell", list, side, cell, noFlux(impl.ErrForm))
			holdBook(t, "no cell", nil, side, cell, noFlux(impl.ErrForm))
		}
		for _, cell := range []float64{1000, math.Nextafter(1000, 0), 1, 0.5, 0x1p-30, 0x1p-1022, 0x1p-1073} {
			holdBook(t, "the middle", list, side, cell, inCell(side, side/2, side/2, 1))
		}
	}
	holdBook(t, "wide", []impl.Dot{{X: -10000, Y: 9999}, {X: 10000}, {Y: -10001}}, 20, 1000, impl.FluxResult{Cells: inCell(20, 19, 0, 1).Cells, Lost: 2})
}

func TestFluxBookTold(t *testing.T) {
	holdBook(t, "told", []impl.Dot{{X: 0.25, Y: -0.25}, {X: 9}}, 2, 1, impl.FluxResult{Cells: []int64{0, 1, 0, 0}, Lost: 1})
	// The middle of each cell of nine, so often as its number tells.
	list, want := []impl.Dot{}, impl.FluxResult{}
	for row := range int64(3) {
		for column := range int64(3) {
			number := 3*row + column
			dot := impl.Dot{X: 2 * float64(column-1), Y: 2 * float64(row-1)}
			list = append(list, slices.Repeat([]impl.Dot{dot}, int(number))...)
			want.Cells = append(want.Cells, number)
		}
	}
	holdBook(t, "nine", list, 3, 2, want)
	slices.Reverse(list)
	holdBook(t, "nine", list, 3, 2, want)
	holdBook(t, "noughts", []impl.Dot{{X: nought(), Y: nought()}, {}, {X: nought()}, {Y: nought()}}, 2, 1, inCell(2, 1, 1, 4))
}

// TestFluxBookEdges: of a square from -1 to 1, with cells of 1; an edge belongs to the cell behind it.
func TestFluxBookEdges(t *testing.T) {
	next := func(f float64, to float64) float64 { return math.Nextafter(f, to) }
	edges := []struct {
		place float64
		cell  int64
	}{
		{-1, 0}, {next(-1, 0), 0}, {-0.5, 0}, {-0x1p-52, 0}, {0, 1}, {nought(), 1}, {5e-324, 1}, {0.5, 1}, {1 - 0x1p-52, 1},
		{next(-1, -2), -1}, {-1.5, -1}, {-2, -1}, {1, -1}, {next(1, 2), -1}, {1.5, -1}, {2, -1}, {1e300, -1}, {-1e300, -1},
		{math.Inf(1), -1}, {math.Inf(-1), -1}, {math.NaN(), -1},
		// With 1 these are rounded to 1, and to 2.
		{-5e-324, 1}, {-0x1p-55, 1}, {1 - 0x1p-53, -1},
	}
	for _, x := range edges {
		for _, y := range edges {
			want := inNone(2, 1)
			if x.cell >= 0 && y.cell >= 0 {
				want = inCell(2, y.cell, x.cell, 1)
			}
			holdBook(t, "edges", []impl.Dot{{X: x.place, Y: y.place}}, 2, 1, want)
		}
	}
	// One cell alone, from -1/2 to 1/2.
	for _, place := range []float64{-0.5, next(-0.5, 0), 0, nought(), 0.25, 0.5 - 0x1p-53} {
		holdBook(t, "one cell", []impl.Dot{{X: place, Y: place}, {X: place}, {Y: place}}, 1, 1, inCell(1, 0, 0, 3))
	}
	for _, place := range []float64{next(-0.5, -1), -1, 0.5, next(0.5, 1), next(0.5, 0), 1} {
		holdBook(t, "beside one cell", []impl.Dot{{X: place, Y: place}, {X: place}, {Y: place}}, 1, 1, inNone(1, 3))
	}
	// Each edge and corner of the greatest square, and just outside.
	for number := range int64(20) {
		edge := float64(number-10) * 1000
		holdBook(t, "a corner", []impl.Dot{{X: edge, Y: edge}}, 20, 1000, inCell(20, number, number, 1))
		holdBook(t, "a column's edge", []impl.Dot{{X: edge, Y: -10000}}, 20, 1000, inCell(20, 0, number, 1))
		holdBook(t, "a row's edge", []impl.Dot{{X: -10000, Y: edge}}, 20, 1000, inCell(20, number, 0, 1))
		holdBook(t, "outside", []impl.Dot{{X: edge, Y: 10000}, {X: 10000, Y: edge}, {X: edge, Y: -10001}, {X: next(-10000, -20000), Y: edge}}, 20, 1000, inNone(20, 4))
	}
}

// TestFluxBookLeastCells: half of the least floats is rounded, and a quotient by them may have no bounds.
func TestFluxBookLeastCells(t *testing.T) {
	least := 5e-324
	holdBook(t, "one", []impl.Dot{{}, {X: nought()}, {X: least}, {X: -least}, {Y: least}, {X: 1}}, 1, least, impl.FluxResult{Cells: []int64{2}, Lost: 4})
	// Of three cells half is 1.5 of them, rounded to 2.
	want := impl.FluxResult{Cells: []int64{1, 0, 0, 0, 1, 0, 0, 0, 1}, Lost: 2}
	holdBook(t, "three", []impl.Dot{{X: -2 * least, Y: -2 * least}, {X: -least, Y: -least}, {}, {X: least}, {X: -3 * least}}, 3, least, want)
	for _, place := range []float64{1, 1e-10, impl.LargestFloat, -1, math.Inf(1)} {
		holdBook(t, "far", []impl.Dot{{X: place}, {Y: place}}, 20, least, inNone(20, 2))
		holdBook(t, "far", []impl.Dot{{X: place}, {Y: place}}, 20, 0x1p-1022, inNone(20, 2))
	}
	for side := int64(1); side <= 20; side++ {
		list := []impl.Dot{}
		for number := range 41 {
			list = append(list, impl.Dot{X: float64(number-20) * least, Y: float64(number%7-3) * least})
		}
		for _, cell := range []float64{least, 2 * least, 3 * least, 5 * least} {
			holdBook(t, "least", list, side, cell, bookByWords(list, side, cell))
		}
	}
}

// exactCell is the cell if nothing were rounded but the half, -1 for none.
func exactCell(place float64, side int64, cell float64) int64 {
	number := exact(place)
	number.Add(number, exact(float64(side)*cell/2))
	number.Quo(number, exact(cell))
	if number.Sign() < 0 || number.Cmp(big.NewRat(side, 1)) >= 0 {
		return -1
	}
	return new(big.Int).Quo(number.Num(), number.Denom()).Int64()
}

// TestFluxBookDrawnDots has many dots near the edges of cells, and counts how often it is seen that the sum and the quotient are rounded.
func TestFluxBookDrawnDots(t *testing.T) {
	draw := numbers{state: 1041}
	roundedOn, lost := 0, int64(0)
	for range 1500 {
		side := 1 + draw.below(20)
		cell := []float64{0.1, 1, 1.0 / 3, 0.7, 999.9, 1e-5}[draw.below(6)]
		if draw.below(4) == 0 {
			cell = math.Nextafter(1000*drawnPart(&draw), 1)
		}
		place := func() float64 {
			f := (float64(draw.below(side+3)-1) - float64(side)/2) * cell
			if draw.below(4) == 0 {
				f += cell * drawnPart(&draw)
			}
			for range draw.below(3) {
				f = math.Nextafter(f, aroundNought(&draw, 1e6))
			}
			return f
		}
		list := []impl.Dot{}
		for range draw.below(40) {
			d := impl.Dot{X: place(), Y: place()}
			if exactCell(d.X, side, cell) != cellByWords(d.X, side, cell) {
				roundedOn++
			}
			list = append(list, d)
		}
		want := bookByWords(list, side, cell)
		lost += want.Lost
		holdBook(t, "drawn", list, side, cell, want)
	}
	if roundedOn < 200 || lost < 1000 {
		t.Error(roundedOn, lost)
	}
}

func TestFluxBookEveryEdge(t *testing.T) {
	draw := numbers{state: 1042}
	for range 3000 {
		list := []impl.Dot{}
		for range draw.below(6) {
			list = append(list, impl.Dot{X: drawnEdge(&draw), Y: drawnEdge(&draw)})
		}
		side, cell := draw.below(23)-1, drawnEdge(&draw)
		holdBook(t, "edges", list, side, cell, bookByWords(list, side, cell))
	}
	for _, x := range anyFloats() {
		list := []impl.Dot{{X: x}, {Y: x}, {X: x, Y: x}}
		for _, cell := range []float64{1, 1000, 1e-200} {
			holdBook(t, "any", list, 20, cell, bookByWords(list, 20, cell))
		}
	}
}

// TestFluxBooksBalance: a book of dots is the sum of the books of its parts, and does not hang on their order.
func TestFluxBooksBalance(t *testing.T) {
	draw := numbers{state: 1043}
	for range 200 {
		list := drawnDots(&draw, int(draw.below(401)), 6)
		side, cell := 1+draw.below(20), 0.125*float64(1+draw.below(8))
		whole := impl.FluxBook(list, side, cell)
		cut := int(draw.below(int64(len(list)) + 1))
		a, b := impl.FluxBook(list[:cut], side, cell), impl.FluxBook(list[cut:], side, cell)
		sum := impl.FluxResult{Cells: make([]int64, side*side), Lost: a.Lost + b.Lost}
		for i := range sum.Cells {
			sum.Cells[i] = a.Cells[i] + b.Cells[i]
		}
		holdBook(t, "whole", list, side, cell, sum)
		slices.Reverse(list)
		holdBook(t, "back", list, side, cell, whole)
	}
}
