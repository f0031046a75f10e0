package tests

import (
	"math"
	"math/big"
	"slices"
	"testing"

	"loop.example/g00049/impl"
)

// pivotRule picks one of the rows from c on, as the document does or otherwise.
type pivotRule func(rows [][]float64, c int) int

func greatestPivot(rows [][]float64, c int) int {
	at := c
	for i := c; i < len(rows); i++ {
		if orderSlowly(math.Abs(rows[i][c]), math.Abs(rows[at][c])) > 0 {
			at = i
		}
	}
	return at
}

// lastGreatestPivot is the last one of several.
func lastGreatestPivot(rows [][]float64, c int) int {
	at := c
	for i := c; i < len(rows); i++ {
		if orderSlowly(math.Abs(rows[i][c]), math.Abs(rows[at][c])) >= 0 {
			at = i
		}
	}
	return at
}

// highestPivot looks at signs, too.
func highestPivot(rows [][]float64, c int) int {
	at := c
	for i := c; i < len(rows); i++ {
		if orderSlowly(rows[i][c], rows[at][c]) > 0 {
			at = i
		}
	}
	return at
}

func firstPivot(rows [][]float64, c int) int {
	for i := c; i < len(rows); i++ {
		if rows[i][c] != 0 {
			return i
		}
	}
	return c
}

func copyOfFloats(rows [][]float64) [][]float64 {
	twin := slices.Clone(rows)
	for i := range twin {
		twin[i] = slices.Clone(rows[i])
	}
	return twin
}

// equationsByWords has a code of the numbers of rows and of what stands in them, if there is one.
func equationsByWords(rows [][]float64, right []float64) int64 {
	if len(rows) > 21 {
		return impl.ErrMany
	}
	unlike := func(row []float64) bool { return len(row) != len(rows) }
	if len(rows) == 0 || slices.ContainsFunc(rows, unlike) || unlike(right) {
		return impl.ErrForm
	}
	return impl.OK
}

func floatsSolvedBy(pick pivotRule, rows [][]float64, right []float64) impl.FloatList {
	if code := equationsByWords(rows, right); code != impl.OK {
		return impl.FloatList{Code: code}
	}
	a, b, n := copyOfFloats(rows), slices.Clone(right), len(rows)
	for c := range n {
		at := pick(a, c)
		a[c], a[at] = a[at], a[c]
		b[c], b[at] = b[at], b[c]
		if math.IsNaN(a[c][c]) || a[c][c] == 0 {
			return impl.FloatList{Code: impl.ErrNone}
		}
		for i := c + 1; i < n; i++ {
			f := onceQuotient(a[i][c], a[c][c])
			for j := c; j < n; j++ {
				a[i][j] = onceSum(a[i][j], -onceProduct(f, a[c][j]))
			}
			b[i] = onceSum(b[i], -onceProduct(f, b[c]))
		}
	}
	x := make([]float64, n)
	for i := n - 1; i >= 0; i-- {
		left := b[i]
		for j := i + 1; j < n; j++ {
			left = onceSum(left, -onceProduct(a[i][j], x[j]))
		}
		x[i] = onceQuotient(left, a[i][i])
	}
	return impl.FloatList{List: x}
}

func floatsSolvedByWords(rows [][]float64, right []float64) impl.FloatList {
	return floatsSolvedBy(greatestPivot, rows, right)
}

func sameFloatList(a impl.FloatList, b impl.FloatList) bool {
	return a.Code == b.Code && sameFloats(a.List, b.List)
}

// bitsOfRows tell what stands in the rows and behind their ends.
func bitsOfRows(rows [][]float64) []uint64 {
	bits := []uint64{}
	for _, row := range rows[:cap(rows)] {
		bits = append(bits, uint64(len(row)))
		bits = append(bits, bitsOfList(row[:cap(row)])...)
	}
	return bits
}

// holdSolved asks twice, for answers in memory of their own, and looks whether the equations are left alone.
func holdSolved(t *testing.T, what string, rows [][]float64, right []float64, want impl.FloatList) {
	t.Helper()
	kept := append(bitsOfRows(rows), bitsOfList(right[:cap(right)])...)
	got, again := impl.SolveFloats(rows, right), impl.SolveFloats(rows, right)
	if !sameFloatList(got, want) || !sameFloatList(again, want) {
		t.Errorf("%s: SolveFloats(%s, %s) = %s, then %s, want %s", what, brief(rows), brief(right), brief(got), brief(again), brief(want))
	}
	if !slices.Equal(kept, append(bitsOfRows(rows), bitsOfList(right[:cap(right)])...)) {
		t.Errorf("%s: SolveFloats changes %s or %s", what, brief(rows), brief(right))
	}
	if len(rows) <= 25 {
		apart(t, [][]float64{got.List}, append(slices.Clone(rows), right, again.List))
	}
}

func holdSolvedByWords(t *testing.T, what string, rows [][]float64, right []float64) impl.FloatList {
	t.Helper()
	want := floatsSolvedByWords(rows, right)
	holdSolved(t, what, rows, right, want)
	return want
}

func solvedFloats(list ...float64) impl.FloatList {
	return impl.FloatList{List: list}
}

func unsolved(code int64) impl.FloatList {
	return impl.FloatList{Code: code}
}

// diagonalFloats have the number on the diagonal and 0 elsewhere.
func diagonalFloats(side int, number float64) [][]float64 {
	rows := make([][]float64, side)
	for i := range rows {
		rows[i] = make([]float64, side)
		rows[i][i] = number
	}
	return rows
}

// longFloats are rows of the lengths that are told.
func longFloats(lengths ...int) [][]float64 {
	rows := [][]float64{}
	for i, length := range lengths {
		rows = append(rows, make([]float64, length))
		for j := range length {
			rows[i][j] = 1 / float64(1+i+j)
		}
	}
	return rows
}

func drawnFloats(draw *numbers, count int, size float64) []float64 {
	list := make([]float64, count)
	for i := range list {
		list[i] = aroundNought(draw, size)
	}
	return list
}

func drawnFloatRows(draw *numbers, side int) [][]float64 {
	rows := make([][]float64, side)
	for i := range rows {
		rows[i] = drawnFloats(draw, side, 4)
	}
	return rows
}

func TestSolveFloatsHowMany(t *testing.T) {
	form, many := unsolved(impl.ErrForm), unsolved(impl.ErrMany)
	holdSolved(t, "no row", nil, nil, form)
	holdSolved(t, "no row", [][]float64{}, []float64{}, form)
	holdSolved(t, "no row", nil, []float64{1}, form)
	holdSolved(t, "no row", [][]float64{{1}, {1}}[:0], []float64{1, 2}[:0], form)
	for _, side := range []int{1, 2, 3, 20, 21} {
		right := make([]float64, side)
		for i := range right {
			right[i] = float64(i) - 3
		}
		half := slices.Clone(right)
		for i := range half {
			half[i] /= 2
		}
		holdSolved(t, "diagonal", diagonalFloats(side, 2), right, solvedFloats(half...))
		holdSolved(t, "room behind", roomy(diagonalFloats(side, 2), []float64{5}), roomy(right, 9), solvedFloats(half...))
		holdSolved(t, "no pivot", diagonalFloats(side, 0), right, unsolved(impl.ErrNone))
	}
	for _, side := range []int{22, 23, 25, 400} {
		holdSolved(t, "too many", diagonalFloats(side, 2), make([]float64, side), many)
		holdSolved(t, "too many, no pivot", diagonalFloats(side, 0), make([]float64, side), many)
		holdSolved(t, "too many, without numbers", make([][]float64, side), make([]float64, side), many)
		holdSolved(t, "too many, right is too short", diagonalFloats(side, 2), make([]float64, side-1), many)
		holdSolved(t, "too many, no right", diagonalFloats(side, 2), nil, many)
		holdSolved(t, "room for too many", longFloats(slices.Repeat([]int{1}, side)...)[:1], []float64{3}, solvedFloats(3))
	}
}

func TestSolveFloatsUnlikeLong(t *testing.T) {
	form := unsolved(impl.ErrForm)
	for _, side := range []int{1, 2, 5, 20, 21} {
		right := make([]float64, side)
		for place := range side {
			for _, length := range []int{0, side - 1, side + 1, 21, 22, 60} {
				if length == side {
					continue
				}
				rows := diagonalFloats(side, 2)
				rows[place] = make([]float64, length)
				holdSolved(t, "one row", rows, right, form)
			}
			rows := diagonalFloats(side, 2)
			rows[place] = rows[place][:side-1]
			holdSolved(t, "room behind a row", rows, right, form)
		}
		for _, length := range []int{0, side - 1, side + 1, 21, 22, 60} {
			if length == side {
				continue
			}
			holdSolved(t, "right", diagonalFloats(side, 2), make([]float64, length), form)
			holdSolved(t, "right, no pivot", diagonalFloats(side, 0), make([]float64, length), form)
			holdSolved(t, "all rows", longFloats(slices.Repeat([]int{length}, side)...), right, form)
			holdSolved(t, "all rows and right", longFloats(slices.Repeat([]int{length}, side)...), make([]float64, length), form)
		}
	}
	nan := math.NaN()
	holdSolved(t, "no pivot first", [][]float64{{0, 0}, {0}}, []float64{1, 2}, form)
	holdSolved(t, "NaN first", [][]float64{{nan, nan}, {nan, nan, nan}}, []float64{1, 2}, form)
	holdSolved(t, "nil first", [][]float64{nil, {1, 2}}, []float64{1, 2}, form)
}

func TestSolveOneFloat(t *testing.T) {
	inf, nan, none := math.Inf(1), math.NaN(), unsolved(impl.ErrNone)
	for _, right := range []float64{0, 1, -1, inf, nan} {
		for _, number := range []float64{0, nought(), nan, math.Float64frombits(1<<63 + impl.NaNBits)} {
			holdSolved(t, "no pivot", [][]float64{{number}}, []float64{right}, none)
		}
	}
	holdSolved(t, "told", [][]float64{{4}}, []float64{2}, solvedFloats(0.5))
	holdSolved(t, "told", [][]float64{{-4}}, []float64{2}, solvedFloats(-0.5))
	holdSolved(t, "noughts", [][]float64{{-4}}, []float64{0}, solvedFloats(nought()))
	holdSolved(t, "noughts", [][]float64{{-4}}, []float64{nought()}, solvedFloats(0))
	holdSolved(t, "infinite", [][]float64{{inf}}, []float64{1}, solvedFloats(0))
	holdSolved(t, "infinite", [][]float64{{-inf}}, []float64{1}, solvedFloats(nought()))
	holdSolved(t, "infinite", [][]float64{{inf}}, []float64{-inf}, solvedFloats(nan))
	holdSolved(t, "infinite", [][]float64{{2}}, []float64{-inf}, solvedFloats(-inf))
	holdSolved(t, "NaN", [][]float64{{2}}, []float64{nan}, solvedFloats(nan))
	holdSolved(t, "least", [][]float64{{5e-324}}, []float64{1}, solvedFloats(inf))
	holdSolved(t, "least", [][]float64{{-5e-324}}, []float64{5e-324}, solvedFloats(-1))
	for _, a := range anyFloats() {
		for _, b := range edgeFloats() {
			holdSolvedByWords(t, "one", [][]float64{{a}}, []float64{b})
			holdSolvedByWords(t, "one", [][]float64{{b}}, []float64{a})
		}
	}
}

func TestSolveFloatsTold(t *testing.T) {
	holdSolved(t, "two", [][]float64{{2, 1}, {1, 3}}, []float64{3, 4}, solvedFloats(1, 1))
	holdSolved(t, "two", [][]float64{{0, 1}, {1, 0}}, []float64{3, 4}, solvedFloats(4, 3))
	holdSolved(t, "two", [][]float64{{nought(), 2}, {4, 1}}, []float64{6, 11}, solvedFloats(2, 3))
	holdSolved(t, "three", [][]float64{{1, 2, 4}, {2, 8, 16}, {4, 8, 8}}, []float64{17, 66, 44}, solvedFloats(1, 2, 3))
	holdSolved(t, "three", [][]float64{{0, 0, 2}, {0, 4, 1}, {8, 1, 1}}, []float64{6, 11, 13}, solvedFloats(1, 2, 3))
	// Each row is another one's, so that what stands right has to go along.
	for _, turn := range []int{1, 2, 3} {
		rows, right := [][]float64{}, []float64{}
		for i := range 4 {
			rows = append(rows, diagonalFloats(4, 1)[(i+turn)%4])
			right = append(right, float64((i+turn)%4))
		}
		holdSolved(t, "turned", rows, right, solvedFloats(0, 1, 2, 3))
	}
}

// TestSolveFloatsByTheFirstPivot: which of two rows stays ahead is seen in the first number: 1e17 less 1e17 is 0, but 2 less 1 is 1.
func TestSolveFloatsByTheFirstPivot(t *testing.T) {
	great, small := []float64{1, 1e17}, []float64{1, 1}
	below := func(row []float64) []float64 { return []float64{-row[0], -row[1]} }
	holdSolved(t, "great first", [][]float64{great, small}, []float64{1e17, 2}, solvedFloats(0, 1))
	holdSolved(t, "small first", [][]float64{small, great}, []float64{2, 1e17}, solvedFloats(1, 1))
	holdSolved(t, "great first, below 0", [][]float64{below(great), small}, []float64{-1e17, 2}, solvedFloats(nought(), 1))
	holdSolved(t, "great first, small below 0", [][]float64{great, below(small)}, []float64{1e17, -2}, solvedFloats(0, 1))
	holdSolved(t, "small first, below 0", [][]float64{below(small), great}, []float64{-2, 1e17}, solvedFloats(1, 1))
	holdSolved(t, "small first, great below 0", [][]float64{small, below(great)}, []float64{2, -1e17}, solvedFloats(1, 1))
	above := math.Nextafter(1, 2)
	if got := holdSolvedByWords(t, "the second is greater", [][]float64{great, {above, 1}}, []float64{1e17, 2}); got.List[0] == 0 {
		t.Error(got)
	}
	if got := holdSolvedByWords(t, "the second is greater", [][]float64{great, {-above, -1}}, []float64{1e17, -2}); got.List[0] == 0 {
		t.Error(got)
	}
	if got := holdSolvedByWords(t, "the first is greater", [][]float64{{-above, -1e17}, small}, []float64{-1e17, 2}); got.List[0] != 0 {
		t.Error(got)
	}
	// Of three, the two last ones are greater, and alike.
	third := []float64{0.5, 0, 1}
	holdSolved(t, "second", [][]float64{third, {1, 1e17, 0}, {-1, -1, 0}}, []float64{3, 1e17, -2}, floatsSolvedByWords([][]float64{{1, 1e17, 0}, third, {-1, -1, 0}}, []float64{1e17, 3, -2}))
	if got := impl.SolveFloats([][]float64{third, {1, 1e17, 0}, {-1, -1, 0}}, []float64{3, 1e17, -2}); got.List[0] != 0 {
		t.Error(got)
	}
	if got := impl.SolveFloats([][]float64{third, {1, 1, 0}, {-1, -1e17, 0}}, []float64{3, 2, -1e17}); got.List[0] != 1 {
		t.Error(got)
	}
}

func TestSolveFloatsWithoutAPivot(t *testing.T) {
	none, n := unsolved(impl.ErrNone), nought()
	for _, rows := range [][][]float64{
		{{0, 1}, {0, 2}},
		{{n, 1}, {0, 2}},
		{{0, 1}, {n, 2}},
		{{1, 1}, {1, 1}},
		{{1, 2}, {2, 4}},
		{{1, 0}, {1, 0}},
		{{1, 0}, {1, n}},
		{{0, 0}, {0, 0}},
		{{n, n}, {n, n}},
		{{1, 2, 3}, {2, 4, 6}, {4, 8, 1}},
		{{0, 2, 3}, {0, 4, 6}, {0, 8, 1}},
		{{1, 0, 3}, {2, 0, 6}, {4, 0, 1}},
		{{1, 2, 0}, {2, 4.5, 0}, {4, 8.5, 0}},
		{{4, 2, 1}, {2, 5, 1}, {6, 7, 2}},
	} {
		holdSolved(t, "no pivot", rows, make([]float64, len(rows)), none)
		holdSolved(t, "no pivot", rows, slices.Repeat([]float64{math.NaN()}, len(rows)), none)
	}
	for side := 1; side <= 21; side++ {
		for place := range side {
			rows, right := diagonalFloats(side, 3), make([]float64, side)
			rows[place][place] = []float64{0, n}[place%2]
			holdSolved(t, "one column", rows, right, none)
			rows[place][place] = 5e-324
			holdSolved(t, "the least", rows, right, solvedFloats(right...))
		}
	}
}

func TestSolveFloatsWithoutBounds(t *testing.T) {
	inf, nan, none := math.Inf(1), math.NaN(), unsolved(impl.ErrNone)
	// A NaN is greater than all else, wherever it stands.
	for side := 1; side <= 5; side++ {
		for i := range side {
			for j := range side {
				rows := longFloats(slices.Repeat([]int{side}, side)...)
				rows[i][j] = nan
				holdSolved(t, "NaN", rows, make([]float64, side), none)
				rows[(i+1)%side][j] = inf
				rows[i][j] = math.Float64frombits(1<<63 + impl.NaNBits)
				holdSolved(t, "NaN beside an infinite one", rows, make([]float64, side), none)
			}
		}
	}
	holdSolved(t, "infinite", [][]float64{{inf, 1}, {1, 1}}, []float64{5, 3}, solvedFloats(0, 3))
	holdSolved(t, "infinite", [][]float64{{1, 1}, {-inf, 1}}, []float64{3, 5}, solvedFloats(nought(), 3))
	holdSolved(t, "infinite twice", [][]float64{{inf, 1}, {inf, 2}}, []float64{5, 3}, none)
	holdSolved(t, "infinite twice", [][]float64{{inf, 1}, {-inf, 2}}, []float64{5, 3}, none)
	holdSolved(t, "infinite behind", [][]float64{{2, 1}, {1, inf}}, []float64{4, 3}, solvedFloats(2, 0))
	// A row that has 0 there is gone through, too: 0 times an infinite number is none.
	holdSolved(t, "beside a nought", [][]float64{{1, inf}, {0, 1}}, []float64{4, 3}, none)
	holdSolved(t, "beside a nought", [][]float64{{1, 0}, {0, 1}}, []float64{inf, 3}, solvedFloats(nan, nan))
	holdSolved(t, "above a nought", [][]float64{{1, 0}, {0, 1}}, []float64{3, inf}, solvedFloats(nan, inf))
	holdSolved(t, "right", [][]float64{{2, 1}, {1, 2}}, []float64{inf, 3}, solvedFloats(inf, -inf))
	holdSolved(t, "right", [][]float64{{2, 1}, {1, 2}}, []float64{inf, inf}, solvedFloats(nan, nan))
	holdSolved(t, "right", [][]float64{{2, 1}, {1, 2}}, []float64{3, nan}, solvedFloats(nan, nan))
	holdSolved(t, "too great", [][]float64{{1, impl.LargestFloat}, {-1, impl.LargestFloat}}, []float64{1, 1}, solvedFloats(1, 0))
	holdSolved(t, "too small", [][]float64{{0x1p600, 1}, {0x1p-600, 0}}, []float64{1, 1}, none)
}

func TestSolveFloatsNoughts(t *testing.T) {
	n := nought()
	// The factor is +0, its product with -0 is -0, and -0 less that is +0.
	holdSolved(t, "noughts", [][]float64{{1, 0}, {0, 1}}, []float64{n, n}, solvedFloats(n, 0))
	holdSolved(t, "noughts", [][]float64{{1, n}, {n, 1}}, []float64{n, n}, solvedFloats(n, n))
	holdSolved(t, "noughts", [][]float64{{1, n}, {0, 1}}, []float64{n, 0}, solvedFloats(0, 0))
	holdSolved(t, "noughts", [][]float64{{-1, 0}, {0, -1}}, []float64{0, 0}, solvedFloats(n, n))
	list := []float64{0, n, 1, -1}
	seen := map[int64]int{}
	for code := range 1 << 12 {
		pick := func(place int) float64 { return list[code>>(2*place)&3] }
		rows, right := [][]float64{{pick(0), pick(1)}, {pick(2), pick(3)}}, []float64{pick(4), pick(5)}
		seen[holdSolvedByWords(t, "noughts", rows, right).Code]++
	}
	if seen[impl.OK] < 1000 || seen[impl.ErrNone] < 1000 {
		t.Error(seen)
	}
}

// TestSolveDrawnFloats counts how often another pivot would be seen.
func TestSolveDrawnFloats(t *testing.T) {
	draw := numbers{state: 1011}
	last, highest, first := 0, 0, 0
	for side := 1; side <= 21; side++ {
		for range 12 - side/2 {
			rows, right := drawnFloatRows(&draw, side), drawnFloats(&draw, side, 9)
			want := holdSolvedByWords(t, "drawn", rows, right)
			if want.Code != impl.OK {
				t.Error(side, want)
			}
			if !sameFloatList(floatsSolvedBy(highestPivot, rows, right), want) {
				highest++
			}
			if !sameFloatList(floatsSolvedBy(firstPivot, rows, right), want) {
				first++
			}
		}
	}
	for range 1000 {
		// Numbers of few sizes are often alike.
		side := 2 + int(draw.below(4))
		rows := make([][]float64, side)
		for i := range rows {
			for range side {
				rows[i] = append(rows[i], []float64{0, 0.1, -0.1, 0.7, -0.7, 0.7}[draw.below(6)])
			}
		}
		right := drawnFloats(&draw, side, 9)
		want := holdSolvedByWords(t, "alike", rows, right)
		if !sameFloatList(floatsSolvedBy(lastGreatestPivot, rows, right), want) {
			last++
		}
	}
	if last < 100 || highest < 50 || first < 50 {
		t.Error(last, highest, first)
	}
}

func TestSolveFloatsOfEveryEdge(t *testing.T) {
	draw := numbers{state: 1012}
	seen := map[int64]int{}
	for range 6000 {
		side := 1 + int(draw.below(4))
		rows, right := make([][]float64, side), []float64{}
		for i := range rows {
			for range side {
				f := drawnEdge(&draw)
				if math.IsNaN(f) && draw.below(8) > 0 {
					f = 3
				}
				rows[i] = append(rows[i], f)
			}
			right = append(right, drawnEdge(&draw))
		}
		seen[holdSolvedByWords(t, "edges", rows, right).Code]++
	}
	if seen[impl.OK] < 1000 || seen[impl.ErrNone] < 500 {
		t.Error(seen)
	}
}

func TestSolveFloatsThatShareMemory(t *testing.T) {
	row := []float64{2, 1, 3}
	holdSolved(t, "one row thrice", [][]float64{row, row, row}, row, unsolved(impl.ErrNone))
	long := []float64{5, 1, 2, 7, 3, 1}
	rows := [][]float64{long[0:3], long[1:4], long[3:6]}
	apartRows := copyOfFloats(rows)
	for _, right := range [][]float64{long[2:5], row, rows[1]} {
		want := floatsSolvedByWords(apartRows, slices.Clone(right))
		if want.Code != impl.OK {
			t.Error(want)
		}
		holdSolved(t, "overlapping", rows, right, want)
	}
}

// exactSolution solves equations in whole numbers by Cramer's rule; nil if they have not just one solution.
func exactSolution(rows [][]int64, right []int64) []float64 {
	all := determinant(rows)
	if all.Sign() == 0 {
		return nil
	}
	list := []float64{}
	for c := range rows {
		other := copyOfRows(rows)
		for i := range other {
			other[i][c] = right[i]
		}
		f, _ := new(big.Rat).SetFrac(determinant(other), all).Float64()
		list = append(list, f)
	}
	return list
}

func TestSolvedFloatsMeetTheirEquations(t *testing.T) {
	draw := numbers{state: 1013}
	solved := 0
	for range 1000 {
		side := 1 + int(draw.below(5))
		rows, right := diagonalRows(side, 0), make([]int64, side)
		floats, told := diagonalFloats(side, 0), make([]float64, side)
		for i := range side {
			right[i] = draw.below(19) - 9
			told[i] = float64(right[i])
			for j := range side {
				rows[i][j] = draw.below(9) - 4
				floats[i][j] = float64(rows[i][j])
			}
		}
		want := exactSolution(rows, right)
		if want == nil {
			continue
		}
		solved++
		got := impl.SolveFloats(floats, told)
		if got.Code != impl.OK || !slices.EqualFunc(got.List, want, near) {
			t.Errorf("SolveFloats(%v, %v) = %v, want about %v", floats, told, got, want)
		}
	}
	if solved < 500 {
		t.Error(solved)
	}
}
