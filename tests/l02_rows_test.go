package tests

import (
	"math"
	"math/big"
	"slices"
	"testing"

	"loop.example/g00049/impl"
)

// drawnRows are side rows of side numbers of any size and sign.
func drawnRows(side int, state uint64) [][]int64 {
	draw := numbers{state: state}
	rows := make([][]int64, side)
	for i := range rows {
		for range side {
			rows[i] = append(rows[i], draw.next())
		}
	}
	return rows
}

// diagonalRows have the number on the diagonal and 0 elsewhere.
func diagonalRows(side int, number int64) [][]int64 {
	rows := make([][]int64, side)
	for i := range rows {
		rows[i] = make([]int64, side)
		rows[i][i] = number
	}
	return rows
}

// wideRows are rows of the lengths that are told.
func wideRows(lengths ...int) [][]int64 {
	rows := make([][]int64, len(lengths))
	for i, length := range lengths {
		rows[i] = make([]int64, length)
	}
	return rows
}

func copyOfRows(rows [][]int64) [][]int64 {
	twin := slices.Clone(rows)
	for i := range twin {
		twin[i] = slices.Clone(rows[i])
	}
	return twin
}

func sameRows(a [][]int64, b [][]int64) bool {
	return slices.EqualFunc(a, b, slices.Equal[[]int64])
}

// turnedRows have the rows as columns.
func turnedRows(rows [][]int64) [][]int64 {
	turned := diagonalRows(len(rows), 0)
	for i := range rows {
		for j := range rows {
			turned[j][i] = rows[i][j]
		}
	}
	return turned
}

// productSlowly multiplies whole numbers of any size, and takes the residues last.
func productSlowly(a [][]int64, b [][]int64) [][]int64 {
	product := diagonalRows(len(a), 0)
	for i := range a {
		for j := range a {
			sum := new(big.Int)
			for k := range a {
				sum.Add(sum, new(big.Int).Mul(big.NewInt(a[i][k]), big.NewInt(b[k][j])))
			}
			product[i][j] = residue(sum)
		}
	}
	return product
}

// determinant goes by the first row, number by number: a way without any quotient.
func determinant(rows [][]int64) *big.Int {
	if len(rows) == 0 {
		return big.NewInt(1)
	}
	sum := new(big.Int)
	for j, number := range rows[0] {
		var rest [][]int64
		for _, row := range rows[1:] {
			rest = append(rest, slices.Concat(row[:j], row[j+1:]))
		}
		term := determinant(rest)
		term.Mul(term, big.NewInt(number))
		if j%2 == 1 {
			term.Neg(term)
		}
		sum.Add(sum, term)
	}
	return sum
}

func TestRowsFault(t *testing.T) {
	many, form := int64(impl.ErrMany), int64(impl.ErrForm)
	repeat := func(count int, length int) []int {
		return slices.Repeat([]int{length}, count)
	}
	for _, c := range []struct {
		name string
		rows [][]int64
		want int64
	}{
		{"nil", nil, form},
		{"no rows", [][]int64{}, form},
		{"one number", wideRows(1), impl.OK},
		{"two rows", wideRows(2, 2), impl.OK},
		{"24 rows", wideRows(repeat(24, 24)...), impl.OK},
		{"23 rows", wideRows(repeat(23, 23)...), impl.OK},
		{"25 rows", wideRows(repeat(25, 25)...), many},
		{"25 rows of 24", wideRows(repeat(25, 24)...), many},
		{"25 rows without numbers", wideRows(repeat(25, 0)...), many},
		{"25 rows that are nil", make([][]int64, 25), many},
		{"1000 rows", make([][]int64, 1000), many},
		{"one row that is nil", [][]int64{nil}, form},
		{"one row without numbers", wideRows(0), form},
		{"a long row", wideRows(2), form},
		{"two short rows", wideRows(1, 1), form},
		{"the first too long", wideRows(3, 2), form},
		{"the last too long", wideRows(2, 3), form},
		{"the first too short", wideRows(1, 2), form},
		{"the last too short", wideRows(2, 2, 2)[:2], impl.OK},
		{"one nil among two", [][]int64{{1, 2}, nil}, form},
		{"24 rows of 23", wideRows(repeat(24, 23)...), form},
		{"23 rows of 24", wideRows(repeat(23, 24)...), form},
		{"one row of 24", wideRows(24), form},
		{"one row of 25", wideRows(25), many},
		{"25 ahead of a short row", wideRows(25, 1), many},
		{"25 behind a short row", wideRows(1, 25), many},
		{"25 beside a short row and a right one", wideRows(3, 1, 25), many},
		{"25 ahead of right ones", wideRows(25, 3, 3), many},
		{"25 behind right ones", wideRows(3, 3, 25), many},
		{"24 beside a short row", wideRows(24, 1), form},
		{"25 as the last of 24", wideRows(append(repeat(23, 24), 25)...), many},
		{"23 as the last of 24", wideRows(append(repeat(23, 24), 23)...), form},
	} {
		if got := impl.RowsFault(c.rows); got != c.want {
			t.Errorf("%s: %d, want %d", c.name, got, c.want)
		}
	}
}

// Every fault of the rows is told by each call that takes them, ahead of its own, and nothing beside it.
func TestRowsFaultsComeFirst(t *testing.T) {
	right := drawnRows(2, 5)
	wrong := [][][]int64{nil, {}, {nil}, {{1, 2}}, {{1, 2}, {3}}, {{1, 2}, {3, 4, 5}}, wideRows(1, 25), wideRows(25), make([][]int64, 25)}
	for i, rows := range wrong {
		code := impl.RowsFault(rows)
		if code == impl.OK {
			t.Fatal("rows", i, "are right")
		}
		for _, other := range append(wrong, right) {
			if got := impl.MulRows(rows, other); got.Code != code || got.Rows != nil {
				t.Errorf("MulRows(%v, %v) = %v", rows, other, got)
			}
		}
		if got := impl.MulRows(right, rows); got.Code != code || got.Rows != nil {
			t.Errorf("MulRows(right, %v) = %v", rows, got)
		}
		if got := impl.InvRows(rows); got.Code != code || got.Rows != nil {
			t.Errorf("InvRows(%v) = %v", rows, got)
		}
		for length := range 27 {
			if got := impl.SolveRows(rows, make([]int64, length)); got.Code != code || got.List != nil {
				t.Errorf("SolveRows(%v, %d numbers) = %v", rows, length, got)
			}
		}
	}
}

func TestMulRowsOfUnlikeManyRows(t *testing.T) {
	for a := 1; a <= 24; a++ {
		for b := 1; b <= 24; b++ {
			got := impl.MulRows(drawnRows(a, 1), drawnRows(b, 2))
			if a != b && (got.Code != impl.ErrForm || got.Rows != nil) {
				t.Errorf("%d and %d rows: %v", a, b, got)
			}
			if a == b && got.Code != impl.OK {
				t.Errorf("%d and %d rows: code %d", a, b, got.Code)
			}
		}
	}
}

func TestMulRows(t *testing.T) {
	for side := 1; side <= 24; side++ {
		a, b := drawnRows(side, 7), drawnRows(side, 8)
		got := impl.MulRows(a, b)
		if got.Code != impl.OK || !sameRows(got.Rows, productSlowly(a, b)) {
			t.Errorf("side %d: %v", side, got)
		}
	}
	for _, number := range []int64{math.MinInt64, math.MaxInt64, -1, impl.Prime - 1, impl.Prime, 1} {
		a := diagonalRows(24, 0)
		for i := range a {
			for j := range a {
				a[i][j] = number
			}
		}
		if got := impl.MulRows(a, a); got.Code != impl.OK || !sameRows(got.Rows, productSlowly(a, a)) {
			t.Errorf("24 rows of %d: %v", number, got)
		}
	}
	if got := impl.MulRows([][]int64{{1, 2}, {3, 4}}, [][]int64{{0, 1}, {0, 0}}); !sameRows(got.Rows, [][]int64{{0, 1}, {0, 3}}) {
		t.Error("the order of a and b", got)
	}
}

// holdInverse checks an inverse from either side, by the slow product.
func holdInverse(t *testing.T, rows [][]int64) {
	t.Helper()
	got := impl.InvRows(rows)
	if got.Code != impl.OK || len(got.Rows) != len(rows) || impl.RowsFault(got.Rows) != impl.OK {
		t.Errorf("InvRows(%v) = %v", rows, got)
		return
	}
	one := diagonalRows(len(rows), 1)
	if !sameRows(productSlowly(rows, got.Rows), one) || !sameRows(productSlowly(got.Rows, rows), one) {
		t.Errorf("InvRows(%v) = %v is no inverse", rows, got)
	}
	if !sameRows(impl.MulRows(rows, got.Rows).Rows, one) || !sameRows(impl.MulRows(got.Rows, rows).Rows, one) {
		t.Errorf("MulRows of %v and its inverse", rows)
	}
	for _, row := range got.Rows {
		if slices.Min(row) < 0 || slices.Max(row) >= impl.Prime {
			t.Errorf("InvRows(%v): no residues: %v", rows, row)
		}
	}
}

func TestInvRowsOfDrawnOnes(t *testing.T) {
	for side := 1; side <= 24; side++ {
		for state := range uint64(4) {
			holdInverse(t, drawnRows(side, state))
		}
	}
}

// Rows whose numbers on the diagonal are 0 have to be put in another order on the way.
func TestInvRowsWithNoughtsOnTheWay(t *testing.T) {
	holdInverse(t, [][]int64{{0, 1}, {1, 0}})
	holdInverse(t, [][]int64{{0, 1}, {1, 5}})
	holdInverse(t, [][]int64{{impl.Prime, 1}, {1, 5}})
	holdInverse(t, [][]int64{{0, 0, 1}, {0, 1, 0}, {1, 0, 0}})
	holdInverse(t, [][]int64{{0, 1, 0}, {0, 0, 1}, {1, 0, 0}})
	holdInverse(t, [][]int64{{1, 1, 1}, {1, 1, 2}, {1, 2, 1}})
	holdInverse(t, [][]int64{{1, impl.Prime, 0}, {-1, 0, 1}, {0, 1, math.MinInt64}})
	backwards := diagonalRows(24, 1)
	slices.Reverse(backwards)
	holdInverse(t, backwards)
	corner := drawnRows(24, 9)
	for i := range corner {
		corner[i][i] = int64(i) + 1
		for j := range i {
			corner[j][i] = impl.Prime * int64(j)
		}
	}
	for range corner { // each order begins with other noughts
		corner = append(corner[1:], corner[0])
		holdInverse(t, corner)
	}
}

// All matrices of few numbers: there is an inverse just if the determinant's residue isn't 0.
func TestInvRowsOfAllSmallOnes(t *testing.T) {
	try := func(side int, choices []int64) {
		count := 1
		for range side * side {
			count *= len(choices)
		}
		for number := range count {
			rows := diagonalRows(side, 0)
			for i := range side * side {
				rows[i/side][i%side] = choices[number%len(choices)]
				number /= len(choices)
			}
			if residue(determinant(rows)) != 0 {
				holdInverse(t, rows)
			} else if got := impl.InvRows(rows); got.Code != impl.ErrNone || got.Rows != nil {
				t.Errorf("InvRows(%v) = %v", rows, got)
			}
		}
	}
	try(1, anyNumbers())
	try(2, []int64{0, 1, -1, 2, impl.Prime - 1, impl.Prime, impl.Prime + 2, -3})
	try(3, []int64{0, 1, impl.Prime + 2})
	try(4, []int64{0, 1})
}

// singularRows are rows without an inverse, side by side with their names.
func singularRows(side int) map[string][][]int64 {
	all := map[string][][]int64{}
	for name, change := range map[string]func(rows [][]int64){
		"two rows alike":             func(rows [][]int64) { rows[side-1] = slices.Clone(rows[0]) },
		"a row of noughts":           func(rows [][]int64) { rows[side/2] = make([]int64, side) },
		"a row of Prime":             func(rows [][]int64) { rows[side-1] = slices.Repeat([]int64{-impl.Prime}, side) },
		"rows alike but for Prime":   func(rows [][]int64) { rows[side-1] = residuesOf(rows[0]) },
		"the last is twice the sum":  func(rows [][]int64) { rows[side-1] = sumOfRows(rows[:side-1], 2) },
		"the first is less the rest": func(rows [][]int64) { rows[0] = sumOfRows(rows[1:], -1) },
	} {
		rows := drawnRows(side, 11)
		change(rows)
		all[name] = rows
		all[name+", turned"] = turnedRows(rows)
	}
	return all
}

func residuesOf(row []int64) []int64 {
	list := make([]int64, len(row))
	for i, number := range row {
		list[i] = residue(big.NewInt(number))
	}
	return list
}

func sumOfRows(rows [][]int64, times int64) []int64 {
	sum := make([]int64, len(rows[0]))
	for j := range sum {
		for _, row := range rows {
			sum[j] += row[j] % impl.Prime
		}
		sum[j] *= times
	}
	return sum
}

func TestRowsWithoutAnInverse(t *testing.T) {
	for _, side := range []int{2, 3, 5, 24} {
		for name, rows := range singularRows(side) {
			if got := impl.InvRows(rows); got.Code != impl.ErrNone || got.Rows != nil {
				t.Errorf("side %d, %s: InvRows %v", side, name, got)
			}
			met := make([]int64, side) // noughts solve it, so that there is more than one list
			if got := impl.SolveRows(rows, met); got.Code != impl.ErrNone || got.List != nil {
				t.Errorf("side %d, %s: SolveRows of noughts %v", side, name, got)
			}
			draw := numbers{state: 12}
			for i := range met {
				met[i] = draw.next() // likely to be met by no list
			}
			if got := impl.SolveRows(rows, met); got.Code != impl.ErrNone || got.List != nil {
				t.Errorf("side %d, %s: SolveRows %v", side, name, got)
			}
			for _, length := range []int{0, side - 1, side + 1, 25} {
				if got := impl.SolveRows(rows, make([]int64, length)); got.Code != impl.ErrForm || got.List != nil {
					t.Errorf("side %d, %s: SolveRows of %d numbers %v", side, name, length, got)
				}
			}
		}
	}
}

func TestSolveRowsOfWrongLengths(t *testing.T) {
	for side := 1; side <= 24; side++ {
		rows := drawnRows(side, 13)
		if got := impl.SolveRows(rows, nil); got.Code != impl.ErrForm || got.List != nil {
			t.Errorf("side %d, nil: %v", side, got)
		}
		for _, length := range []int{0, side - 1, side + 1, 25, 1000} {
			if got := impl.SolveRows(rows, make([]int64, length)); got.Code != impl.ErrForm || got.List != nil {
				t.Errorf("side %d, %d numbers: %v", side, length, got)
			}
		}
	}
}

func TestSolveRows(t *testing.T) {
	for side := 1; side <= 24; side++ {
		for state := range uint64(4) {
			rows := drawnRows(side, state)
			right := drawnRows(side, state+20)[0]
			got := impl.SolveRows(rows, right)
			if got.Code != impl.OK || len(got.List) != side {
				t.Errorf("side %d: %v", side, got)
				continue
			}
			inverse := impl.InvRows(rows).Rows
			for i := range side {
				sum, same := new(big.Int), new(big.Int)
				for j := range side {
					sum.Add(sum, new(big.Int).Mul(big.NewInt(rows[i][j]), big.NewInt(got.List[j])))
					same.Add(same, new(big.Int).Mul(big.NewInt(inverse[i][j]), big.NewInt(right[j])))
				}
				if residue(sum) != residue(big.NewInt(right[i])) {
					t.Errorf("side %d: equation %d is not met", side, i)
				}
				if residue(same) != got.List[i] {
					t.Errorf("side %d: number %d is %d, by the inverse %d", side, i, got.List[i], residue(same))
				}
			}
		}
	}
	for _, c := range []struct {
		rows  [][]int64
		right []int64
		want  []int64
	}{
		{[][]int64{{2}}, []int64{-6}, []int64{impl.Prime - 3}},
		{[][]int64{{1}}, []int64{math.MinInt64}, []int64{residue(big.NewInt(math.MinInt64))}},
		{[][]int64{{1}}, []int64{impl.Prime}, []int64{0}},
		{[][]int64{{0, 1}, {1, 0}}, []int64{5, 7}, []int64{7, 5}},
		{[][]int64{{2, 1}, {1, 1}}, []int64{5, 3}, []int64{2, 1}},
		{[][]int64{{0, 2, 0}, {0, 0, 3}, {4, 0, 0}}, []int64{4, -9, 20}, []int64{5, 2, impl.Prime - 3}},
	} {
		if got := impl.SolveRows(c.rows, c.right); got.Code != impl.OK || !slices.Equal(got.List, c.want) {
			t.Errorf("SolveRows(%v, %v) = %v, want %v", c.rows, c.right, got, c.want)
		}
	}
}

// No call changes what it is given, and what it answers is its own memory; asked again it answers the same.
func TestRowsAreLeftAlone(t *testing.T) {
	for _, side := range []int{1, 2, 3, 24} {
		a, b, right := drawnRows(side, 31), drawnRows(side, 32), drawnRows(side, 33)[0]
		wasA, wasB, wasRight := copyOfRows(a), copyOfRows(b), slices.Clone(right)
		product, inverse, list, fault := impl.MulRows(a, b), impl.InvRows(a), impl.SolveRows(a, right), impl.RowsFault(a)
		if !sameRows(a, wasA) || !sameRows(b, wasB) || !slices.Equal(right, wasRight) {
			t.Errorf("side %d: an argument was changed", side)
		}
		given := append(slices.Concat(a, b), right)
		apart(t, product.Rows, given)
		apart(t, inverse.Rows, given)
		apart(t, [][]int64{list.List}, given)
		apart(t, [][][]int64{product.Rows, inverse.Rows}, [][][]int64{a, b})
		if !sameRows(impl.MulRows(a, b).Rows, product.Rows) || !sameRows(impl.InvRows(a).Rows, inverse.Rows) ||
			!slices.Equal(impl.SolveRows(a, right).List, list.List) || impl.RowsFault(a) != fault {
			t.Errorf("side %d: another answer the second time", side)
		}
	}
	one := diagonalRows(3, 1) // nothing is left to do, so that what comes in could be handed out
	apart(t, append(impl.MulRows(one, one).Rows, impl.InvRows(one).Rows...), one)
	apart(t, [][]int64{impl.SolveRows(one, one[0]).List}, one)
	shared := [][]int64{one[0], one[0], one[0]} // rows of one memory are rows all the same
	if got := impl.MulRows(shared, shared); got.Code != impl.OK || !sameRows(got.Rows, [][]int64{{1, 0, 0}, {1, 0, 0}, {1, 0, 0}}) {
		t.Error(got)
	}
	if got := impl.InvRows(shared); got.Code != impl.ErrNone || !slices.Equal(one[0], []int64{1, 0, 0}) {
		t.Error(got, one[0])
	}
}
