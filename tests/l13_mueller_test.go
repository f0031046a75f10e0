package tests

import (
	"math"
	"math/big"
	"slices"
	"testing"

	"loop.example/g00049/impl"
)

// muellerByLights is found from what the plate does to four lights, without the document's formulas: along and across together are dark but for an I of 2, and so on.
func muellerByLights(p impl.JonesPlate) [][]int64 {
	behind := func(j impl.Jones) impl.Stokes {
		return bigStokes(bigPlate(p).times(bigLight(j))).told()
	}
	along, across, slant, round := behind(lightOf(1, 0, 0, 0)), behind(lightOf(0, 0, 1, 0)), behind(lightOf(1, 0, 1, 0)), behind(lightOf(1, 0, 0, 1))
	rows := [][]int64{}
	for i := range 4 {
		a, b, s, r := *partsOfStokes(&along)[i], *partsOfStokes(&across)[i], *partsOfStokes(&slant)[i], *partsOfStokes(&round)[i]
		rows = append(rows, []int64{a + b, a - b, s - a - b, a + b - r})
	}
	return rows
}

// muellerByWords goes by the document's formulas, one by one.
func muellerByWords(p impl.JonesPlate) [][]int64 {
	r := func(p impl.G, q impl.G) int64 { return p.Re*q.Re + p.Im*q.Im }
	s := func(p impl.G, q impl.G) int64 { return p.Im*q.Re - p.Re*q.Im }
	A, B, C, D := p.A, p.B, p.C, p.D
	a, b, c, d := r(A, A), r(B, B), r(C, C), r(D, D)
	return [][]int64{
		{a + b + c + d, a - b + c - d, 2*r(A, B) + 2*r(C, D), -2*s(A, B) - 2*s(C, D)},
		{a + b - c - d, a - b - c + d, 2*r(A, B) - 2*r(C, D), -2*s(A, B) + 2*s(C, D)},
		{2*r(A, C) + 2*r(B, D), 2*r(A, C) - 2*r(B, D), 2*r(A, D) + 2*r(B, C), 2*s(B, C) - 2*s(A, D)},
		{2*s(A, C) + 2*s(B, D), 2*s(A, C) - 2*s(B, D), 2*s(A, D) + 2*s(B, C), 2*r(A, D) - 2*r(B, C)},
	}
}

func isFourByFour(rows [][]int64) bool {
	return len(rows) == 4 && !slices.ContainsFunc(rows, func(row []int64) bool { return len(row) != 4 })
}

func passStokesByWords(rows [][]int64, s impl.Stokes) impl.StokesResult {
	if !isFourByFour(rows) {
		return noStokes(impl.ErrForm)
	}
	for _, number := range slices.Concat(rows...) {
		if number < -100000000 || number > 100000000 {
			return noStokes(impl.ErrRange)
		}
	}
	if code := stokesCode(s); code != impl.OK {
		return noStokes(code)
	}
	halves, odd := bigFour{}, false
	for i, row := range rows {
		halves[i] = new(big.Int)
		for j, number := range bigFourOf(s) {
			halves[i].Add(halves[i], new(big.Int).Mul(big.NewInt(row[j]), number))
		}
		odd = odd || halves[i].Bit(0) == 1
		halves[i].Quo(halves[i], big.NewInt(2))
	}
	if odd {
		return noStokes(impl.ErrForm)
	}
	if !halves.withinStokes() {
		return noStokes(impl.ErrRange)
	}
	return impl.StokesResult{Stokes: halves.told()}
}

// twiceClear are the rows of a plate that changes nothing.
func twiceClear() [][]int64 {
	return [][]int64{{2, 0, 0, 0}, {0, 2, 0, 0}, {0, 0, 2, 0}, {0, 0, 0, 2}}
}

// withNumber are the rows with another number at that place, of sixteen.
func withNumber(rows [][]int64, place int, number int64) [][]int64 {
	changed := copyOfRows(rows)
	changed[place/4][place%4] = number
	return changed
}

// holdMueller asks twice, and writes over the first answer ahead of looking at the second.
func holdMueller(t *testing.T, p impl.JonesPlate, want impl.RowsResult) {
	t.Helper()
	got, again := impl.TwiceMueller(p), impl.TwiceMueller(p)
	if got.Code != want.Code || !sameRows(got.Rows, want.Rows) {
		t.Errorf("TwiceMueller(%v) = %v, want %v", p, got, want)
	}
	apart(t, got.Rows, again.Rows)
	for _, row := range got.Rows {
		for i := range row[:cap(row)] {
			row[:cap(row)][i] = 77
		}
	}
	for i := range got.Rows {
		got.Rows[i] = nil
	}
	if again.Code != want.Code || !sameRows(again.Rows, want.Rows) {
		t.Errorf("TwiceMueller(%v) is %v when asked again, want %v", p, again, want)
	}
}

// holdPassStokes looks behind the ends of the rows, too.
func holdPassStokes(t *testing.T, what string, rows [][]int64, s impl.Stokes, want impl.StokesResult) {
	t.Helper()
	given := [][]int64{}
	for _, row := range rows {
		given = append(given, roomy(row, 5))
	}
	given = roomy(given, []int64{6, 6, 6, 6})
	kept := [][]int64{}
	for _, row := range given[:cap(given)] {
		kept = append(kept, slices.Clone(row[:cap(row)]))
	}
	for range 2 {
		if got := impl.PassStokes(given, s); got != want {
			t.Errorf("%s: PassStokes(%v, %v) = %v, want %v", what, rows, s, got, want)
		}
	}
	for i, row := range given[:cap(given)] {
		if !slices.Equal(row[:cap(row)], kept[i]) || i < len(rows) && len(row) != len(rows[i]) {
			t.Errorf("%s: PassStokes changes row %d", what, i)
		}
	}
}

func TestTwiceMuellerOfEveryKind(t *testing.T) {
	for kind, rows := range map[int64][][]int64{
		impl.JonesAlong:   {{1, 1, 0, 0}, {1, 1, 0, 0}, {0, 0, 0, 0}, {0, 0, 0, 0}},
		impl.JonesAcross:  {{1, -1, 0, 0}, {-1, 1, 0, 0}, {0, 0, 0, 0}, {0, 0, 0, 0}},
		impl.JonesQuarter: {{2, 0, 0, 0}, {0, 2, 0, 0}, {0, 0, 0, 2}, {0, 0, -2, 0}},
		impl.JonesHalf:    {{2, 0, 0, 0}, {0, 2, 0, 0}, {0, 0, -2, 0}, {0, 0, 0, -2}},
		impl.JonesTurn:    {{2, 0, 0, 0}, {0, -2, 0, 0}, {0, 0, -2, 0}, {0, 0, 0, 2}},
		impl.JonesDim:     {{4, 0, 4, 0}, {0, 0, 0, 0}, {4, 0, 4, 0}, {0, 0, 0, 0}},
		0:                 {{0, 0, 0, 0}, {0, 0, 0, 0}, {0, 0, 0, 0}, {0, 0, 0, 0}},
	} {
		holdMueller(t, impl.PlateOf(kind), impl.RowsResult{Rows: rows})
	}
	holdMueller(t, clearPlate(), impl.RowsResult{Rows: twiceClear()})
}

func TestTwiceMuellerTold(t *testing.T) {
	p := impl.JonesPlate{A: impl.G{Re: 1, Im: 2}, B: impl.G{Re: 3, Im: -4}, C: impl.G{Re: -5, Im: 6}, D: impl.G{Re: 7, Im: 8}}
	holdMueller(t, p, impl.RowsResult{Rows: [][]int64{{204, -72, 16, -184}, {-144, 32, -36, 144}, {-8, 36, -32, -8}, {-136, 72, 16, 124}}})
	const a = 30000
	greatest := impl.JonesPlate{A: impl.G{Re: a, Im: a}, B: impl.G{Re: a, Im: a}, C: impl.G{Re: a, Im: a}, D: impl.G{Re: a, Im: a}}
	holdMueller(t, greatest, impl.RowsResult{Rows: [][]int64{{7200000000, 0, 7200000000, 0}, {0, 0, 0, 0}, {7200000000, 0, 7200000000, 0}, {0, 0, 0, 0}}})
	greatest.B, greatest.C, greatest.D = impl.G{Re: -a, Im: a}, impl.G{Re: a, Im: -a}, impl.G{Re: a, Im: a}
	holdMueller(t, greatest, impl.RowsResult{Rows: [][]int64{{7200000000, 0, 0, 7200000000}, {0, 0, 0, 0}, {0, 0, 0, 0}, {7200000000, 0, 0, 7200000000}}})
}

func TestTwiceMuellerOfWrongPlates(t *testing.T) {
	for _, p := range wrongJonesPlates() {
		got := impl.TwiceMueller(p)
		if got.Code != impl.ErrRange || len(got.Rows) != 0 {
			t.Errorf("TwiceMueller(%v) = %v", p, got)
		}
		holdMueller(t, p, impl.RowsResult{Code: impl.ErrRange})
	}
}

func TestTwiceMuellerByWords(t *testing.T) {
	draw := numbers{state: 1321}
	for range 3000 {
		p := drawnJonesPlate(&draw, []int64{1, 5, 3000, 30000}[draw.below(4)])
		want := muellerByLights(p)
		if !sameRows(want, muellerByWords(p)) {
			t.Errorf("%v: by lights %v, by words %v", p, want, muellerByWords(p))
		}
		holdMueller(t, p, impl.RowsResult{Rows: want})
	}
	// One number alone, or two, so that each product of the sixteen stands by itself.
	for first := range 8 {
		for second := range 8 {
			p := impl.JonesPlate{}
			*partsOfJonesPlate(&p)[first] += 3
			*partsOfJonesPlate(&p)[second] -= 7
			holdMueller(t, p, impl.RowsResult{Rows: muellerByLights(p)})
		}
	}
}

// TestWhatAPlateDoesToALight it does to its four numbers, as long as all of them are within their bounds.
func TestWhatAPlateDoesToALight(t *testing.T) {
	draw, seen := numbers{state: 1322}, map[int64]int{}
	for range 6000 {
		p, j := drawnJonesPlate(&draw, []int64{1, 2, 7, 300, 3500}[draw.below(5)]), drawnLight(&draw, []int64{1, 8, 4000, 15000, 30000}[draw.below(5)])
		behind, told, rows := impl.PassJones(p, j), impl.StokesOf(j), impl.TwiceMueller(p).Rows
		if behind.Code != impl.OK || impl.StokesFault(told.Stokes) != impl.OK {
			continue
		}
		want := impl.StokesOf(behind.Jones)
		if impl.StokesFault(want.Stokes) != impl.OK {
			want = noStokes(impl.ErrRange)
		}
		seen[want.Code]++
		holdPassStokes(t, "behind a plate", rows, told.Stokes, want)
	}
	if seen[impl.OK] < 1000 || seen[impl.ErrRange] < 10 {
		t.Error(seen)
	}
	for kind := range int64(8) {
		for range 200 {
			j := drawnLight(&draw, 7000)
			behind := impl.PassJones(impl.PlateOf(kind), j)
			holdPassStokes(t, "behind a plate of a kind", impl.TwiceMueller(impl.PlateOf(kind)).Rows, impl.StokesOf(j).Stokes, impl.StokesOf(behind.Jones))
		}
	}
}

// TestRowsGoTogetherAsTheirPlates: the product of two plates' rows is twice the rows of the plates one behind the other; a mirrored plate has them mirrored, with the signs of V's turned.
func TestRowsGoTogetherAsTheirPlates(t *testing.T) {
	draw := numbers{state: 1323}
	for range 500 {
		p, q := drawnJonesPlate(&draw, 20), drawnJonesPlate(&draw, 20)
		first, second, both, mirrored := impl.TwiceMueller(p).Rows, impl.TwiceMueller(q).Rows, impl.TwiceMueller(impl.ChainJones([]impl.JonesPlate{p, q}).Plate).Rows, impl.TwiceMueller(impl.MirrorPlate(p)).Rows
		for i := range 4 {
			for j := range 4 {
				sum := int64(0)
				for k := range 4 {
					sum += second[i][k] * first[k][j]
				}
				if sum != 2*both[i][j] {
					t.Errorf("%v, %v: (%d, %d) is %d, want half of %d", p, q, i, j, both[i][j], sum)
				}
				want := first[j][i]
				if (i == 3) != (j == 3) {
					want = -want
				}
				if mirrored[i][j] != want {
					t.Errorf("%v mirrored: (%d, %d) is %d, want %d", p, i, j, mirrored[i][j], want)
				}
			}
		}
	}
}

func TestPassStokesTold(t *testing.T) {
	// Stage 13's shared test has this one, too.
	holdPassStokes(t, "along", impl.TwiceMueller(impl.PlateOf(impl.JonesAlong)).Rows, impl.Stokes{I: 2, V: -2}, toldStokes(1, 1, 0, 0))
	holdPassStokes(t, "clear", twiceClear(), impl.Stokes{I: 3, Q: 1, U: -2, V: 2}, toldStokes(3, 1, -2, 2))
	holdPassStokes(t, "dark", twiceClear(), impl.Stokes{}, impl.StokesResult{})
	holdPassStokes(t, "noughts", [][]int64{{0, 0, 0, 0}, {0, 0, 0, 0}, {0, 0, 0, 0}, {0, 0, 0, 0}}, impl.Stokes{I: 3, Q: 1, U: -2, V: 2}, impl.StokesResult{})
	rows := [][]int64{{1, 2, 3, 4}, {-5, 6, -7, 8}, {9, -10, 11, -12}, {13, 14, -15, -16}}
	holdPassStokes(t, "any rows", rows, impl.Stokes{I: 10, Q: 1, U: 2, V: 4}, toldStokes(17, -13, 27, 25))
	holdPassStokes(t, "any rows", rows, impl.Stokes{I: 10, Q: -2, U: 4, V: 6}, toldStokes(21, -21, 41, -27))
	// What comes out may be a light that can't be.
	untrue := impl.PassStokes([][]int64{{0, 0, 0, 0}, {2, 0, 0, 0}, {-2, 0, 0, 0}, {4, 0, 0, 0}}, impl.Stokes{I: 7})
	if untrue != toldStokes(0, 7, -7, 14) || impl.StokesFault(untrue.Stokes) != impl.ErrForm {
		t.Error(untrue)
	}
	below := impl.PassStokes([][]int64{{-2, 0, 0, 0}, {0, 0, 0, 0}, {0, 0, 0, 0}, {0, 0, 0, 0}}, impl.Stokes{I: 7})
	if below != toldStokes(-7, 0, 0, 0) || impl.StokesFault(below.Stokes) != impl.ErrForm {
		t.Error(below)
	}
	one := []int64{2, 0, 0, 0}
	holdPassStokes(t, "one row four times", [][]int64{one, one, one, one}, impl.Stokes{I: 6}, toldStokes(6, 6, 6, 6))
}

func TestEachNumberOfTheRows(t *testing.T) {
	light := impl.Stokes{I: 20, Q: 2, U: -4, V: 6}
	for place := range 16 {
		rows := make([][]int64, 4)
		for i := range rows {
			rows[i] = make([]int64, 4)
		}
		rows[place/4][place%4] = 7
		want := impl.StokesResult{}
		*partsOfStokes(&want.Stokes)[place/4] = 7 * *partsOfStokes(&light)[place%4] / 2
		holdPassStokes(t, "one number", rows, light, want)
	}
}

// wrongRows are not four of four.
func wrongRows() [][][]int64 {
	list := [][][]int64{nil, {}, {nil}, {nil, nil, nil, nil}, {{}, {}, {}, {}}, twiceClear()[:1], twiceClear()[:3], append(twiceClear(), []int64{0, 0, 0, 0}), append(twiceClear(), nil), append(twiceClear(), twiceClear()...), {{2, 0, 0, 0, 0, 2, 0, 0, 0, 0, 2, 0, 0, 0, 0, 2}}}
	for at := range 4 {
		for _, row := range [][]int64{nil, {}, {2}, {2, 0, 0}, {2, 0, 0, 0, 0}, make([]int64, 100)} {
			rows := twiceClear()
			rows[at] = row
			list = append(list, rows)
		}
	}
	return list
}

func TestPassStokesOfWrongRows(t *testing.T) {
	form := noStokes(impl.ErrForm)
	lights := append(append(farStokes(), falseStokes()...), impl.Stokes{}, impl.Stokes{I: 3, Q: 1, U: 2, V: 2})
	for _, rows := range wrongRows() {
		for _, s := range lights {
			holdPassStokes(t, "no four of four", rows, s, form)
		}
		if got := impl.PassStokes(rows, impl.Stokes{I: 1}); got != form {
			t.Error(rows, got)
		}
		// That they are no four of four is told ahead of a number that is out of bounds.
		for i := range rows {
			for j := range min(len(rows[i]), 6) {
				far := copyOfRows(rows)
				far[i][j] = 100000001
				holdPassStokes(t, "no four of four, and far", far, impl.Stokes{I: 1}, form)
				holdPassStokes(t, "no four of four, and far, beside a far light", far, impl.Stokes{I: 1, V: 2000000001}, form)
			}
		}
	}
}

func TestNumbersOfRowsAtTheirBounds(t *testing.T) {
	for number, right := range map[int64]bool{
		100000000: true, -100000000: true, 99999999: true, -99999999: true, 100000001: false, -100000001: false, 1 << 32: false, -1 << 32: false, 1<<32 + 2: false, 2000000000: false, 1 << 62: false,
		math.MaxInt64: false, math.MinInt64: false, math.MaxInt64 - 1: false, math.MinInt64 + 1: false,
	} {
		for place := range 16 {
			rows := withNumber(twiceClear(), place, number)
			for _, s := range []impl.Stokes{{}, {I: 6, Q: 2, U: 4, V: -2}, {I: 3, Q: 1, U: 2, V: 2}, {I: 2000000000, V: 2000000000}} {
				want := passStokesByWords(rows, s)
				if !right {
					want = noStokes(impl.ErrRange)
				}
				holdPassStokes(t, "one number", rows, s, want)
			}
			if right {
				continue
			}
			// It is told ahead of the light's fault, and of sums that are odd.
			for _, s := range append(farStokes(), falseStokes()...) {
				holdPassStokes(t, "one number beside a wrong light", rows, s, noStokes(impl.ErrRange))
			}
			odd := withNumber(rows, (place+4)%16, 1)
			holdPassStokes(t, "one number beside an odd sum", odd, impl.Stokes{I: 9, Q: 1, U: 1, V: 1}, noStokes(impl.ErrRange))
			holdPassStokes(t, "one number beside an odd sum and a false light", odd, impl.Stokes{I: 1, Q: 1, U: 1, V: 1}, noStokes(impl.ErrRange))
		}
	}
}

func TestPassStokesOfWrongLights(t *testing.T) {
	odd, far := withNumber(twiceClear(), 0, 1), withNumber(twiceClear(), 0, 100000000)
	for _, rows := range [][][]int64{twiceClear(), odd, far, {{0, 0, 0, 0}, {0, 0, 0, 0}, {0, 0, 0, 0}, {0, 0, 0, 0}}} {
		for _, s := range farStokes() {
			holdPassStokes(t, "far", rows, s, noStokes(impl.ErrRange))
		}
		for _, s := range falseStokes() {
			holdPassStokes(t, "false", rows, s, noStokes(impl.ErrForm))
		}
		holdPassStokes(t, "false and far", rows, impl.Stokes{I: -1, Q: 2000000001}, noStokes(impl.ErrRange))
	}
}

func TestOddSums(t *testing.T) {
	form, beyond, light := noStokes(impl.ErrForm), noStokes(impl.ErrRange), impl.Stokes{I: 5, Q: 1, U: 1, V: 3}
	for place := range 16 {
		for _, number := range []int64{1, -1, 3, 99999999, -99999999} {
			rows := withNumber(twiceClear(), place, number)
			holdPassStokes(t, "odd", rows, light, form)
			// Two numbers that are odd make an even sum, in one row.
			even := withNumber(rows, place/4*4+(place+1)%4, number)
			holdPassStokes(t, "even again", even, light, passStokesByWords(even, light))
			if got := passStokesByWords(even, light).Code; got != impl.OK {
				t.Error(even, got)
			}
			// In two rows, both are odd.
			holdPassStokes(t, "odd twice", withNumber(rows, (place+4)%16, number), light, form)
		}
	}
	// One that is odd and another that is out of bounds: odd is told, whichever comes first.
	bright := impl.Stokes{I: 1999999999, Q: 1}
	for odd := range 4 {
		for far := range 4 {
			for _, number := range []int64{4, -4, 100000000, -100000000} {
				rows := [][]int64{{2, 0, 0, 0}, {2, 0, 0, 0}, {2, 0, 0, 0}, {2, 0, 0, 0}}
				rows[far][0] = number
				holdPassStokes(t, "out of bounds", rows, bright, beyond)
				rows[odd][1] = -1
				holdPassStokes(t, "odd and out of bounds", rows, bright, form)
			}
		}
	}
	holdPassStokes(t, "odd below 0", [][]int64{{-1, 0, 0, 0}, {0, 0, 0, 0}, {0, 0, 0, 0}, {0, 0, 0, 0}}, impl.Stokes{I: 1}, form)
	holdPassStokes(t, "odd, near 0", [][]int64{{1, -2, 0, 0}, {0, 0, 0, 0}, {0, 0, 0, 0}, {0, 0, 0, 0}}, impl.Stokes{I: 1, Q: 1}, form)
	holdPassStokes(t, "odd and within, if it were rounded", [][]int64{{2, 1, 0, 0}, {0, 0, 0, 0}, {0, 0, 0, 0}, {0, 0, 0, 0}}, impl.Stokes{I: 2000000000, Q: 1}, form)
}

func TestHalvesAtTheirBounds(t *testing.T) {
	const most = 2000000000
	for at := range 4 {
		for _, sign := range []int64{1, -1} {
			for _, one := range []struct {
				row   [4]int64
				light impl.Stokes
				half  int64
			}{
				{[4]int64{2, 0, 0, 0}, impl.Stokes{I: most}, most}, {[4]int64{2, 2, 0, 0}, impl.Stokes{I: most, Q: 1}, most + 1}, {[4]int64{2, -2, 0, 0}, impl.Stokes{I: most, Q: 1}, most - 1}, {[4]int64{2, 0, 2, 0}, impl.Stokes{I: most, U: 1}, most + 1}, {[4]int64{2, 0, 0, -2}, impl.Stokes{I: most, V: -1}, most + 1},
				{[4]int64{0, 2, 0, 0}, impl.Stokes{I: most, Q: most}, most}, {[4]int64{0, 0, 2, 0}, impl.Stokes{I: most, U: -most}, -most}, {[4]int64{0, 0, 0, 2}, impl.Stokes{I: most, V: -most}, -most}, {[4]int64{100000000, 0, 0, 0}, impl.Stokes{I: 40}, most}, {[4]int64{100000000, 2, 0, 0}, impl.Stokes{I: 40, Q: 1}, most + 1}, {[4]int64{100000000, 100000000, 0, 0}, impl.Stokes{I: most, Q: most}, 200000000000000000}, {[4]int64{100000000, -100000000, 0, 0}, impl.Stokes{I: most, Q: most}, 0},
			} {
				rows := [][]int64{{0, 0, 0, 0}, {0, 0, 0, 0}, {0, 0, 0, 0}, {0, 0, 0, 0}}
				for j, number := range one.row {
					rows[at][j] = sign * number
				}
				want := impl.StokesResult{}
				if one.half > most || one.half < -most {
					want = noStokes(impl.ErrRange)
				} else {
					*partsOfStokes(&want.Stokes)[at] = sign * one.half
				}
				holdPassStokes(t, "halves", rows, one.light, want)
			}
		}
	}
	all := slices.Repeat([][]int64{{100000000, 100000000, 100000000, 100000000}}, 4)
	holdPassStokes(t, "the greatest", all, impl.Stokes{I: most, Q: 1200000000, U: 1600000000}, noStokes(impl.ErrRange))
}

func TestPassStokesByWords(t *testing.T) {
	draw, seen := numbers{state: 1324}, map[int64]int{}
	for range 6000 {
		most := []int64{2, 4, 20, 100000000, 100000001}[draw.below(5)]
		rows := [][]int64{}
		for range 4 {
			row := []int64{}
			for range 4 {
				number := drawnAmp(&draw, most)
				if draw.below(3) > 0 {
					number = number / 2 * 2
				}
				row = append(row, number)
			}
			rows = append(rows, row)
		}
		s := drawnStokes(&draw, []int64{5, 1000, 100000000, 2000000000}[draw.below(4)])
		if draw.below(10) == 0 {
			*partsOfStokes(&s)[draw.below(4)] = drawnAmp(&draw, 2000000001)
		}
		want := passStokesByWords(rows, s)
		seen[want.Code]++
		holdPassStokes(t, "drawn", rows, s, want)
	}
	if seen[impl.OK] < 300 || seen[impl.ErrForm] < 300 || seen[impl.ErrRange] < 300 {
		t.Error(seen)
	}
}
