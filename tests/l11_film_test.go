package tests

import (
	"math"
	"math/big"
	"slices"
	"testing"

	"loop.example/g00049/impl"
)

func bigOf(number int64) *big.Int {
	return big.NewInt(number)
}

func bigTimes(a *big.Int, b *big.Int) *big.Int {
	return new(big.Int).Mul(a, b)
}

func bigPlus(a *big.Int, b *big.Int) *big.Int {
	return new(big.Int).Add(a, b)
}

// bigOver is a residue that gives a times b, of a b that is none of 0.
func bigOver(a *big.Int, b *big.Int) *big.Int {
	return bigTimes(a, new(big.Int).ModInverse(new(big.Int).Mod(b, bigPrime()), bigPrime()))
}

func modFilmByWords(index int64, phase int64) impl.ModPlate {
	if residue(bigOf(index)) == 0 {
		return impl.ModPlate{}
	}
	left := new(big.Int).Mod(bigOf(phase), bigOf(impl.Prime-1))
	e := new(big.Int).Exp(bigOf(3), left, bigPrime())
	back := bigOver(bigOf(1), e)
	c := bigOver(bigPlus(e, back), bigOf(2))
	s := bigOver(new(big.Int).Sub(e, back), bigOf(2))
	return impl.ModPlate{A: residue(c), B: residue(bigOver(s, bigOf(index))), C: residue(bigTimes(s, bigOf(index))), D: residue(c)}
}

func modProductByWords(p impl.ModPlate, q impl.ModPlate) impl.ModPlate {
	two := func(a int64, b int64, c int64, d int64) int64 {
		return residue(bigPlus(bigTimes(bigOf(a), bigOf(b)), bigTimes(bigOf(c), bigOf(d))))
	}
	return impl.ModPlate{A: two(p.A, q.A, p.B, q.C), B: two(p.A, q.B, p.B, q.D), C: two(p.C, q.A, p.D, q.C), D: two(p.C, q.B, p.D, q.D)}
}

func modStackByWords(list []impl.ModPlate) impl.ModPlate {
	stack := impl.ModPlate{A: 1, D: 1}
	for _, plate := range list {
		stack = modProductByWords(stack, plate)
	}
	return stack
}

func modDet(p impl.ModPlate) int64 {
	return residue(new(big.Int).Sub(bigTimes(bigOf(p.A), bigOf(p.D)), bigTimes(bigOf(p.B), bigOf(p.C))))
}

// sideByWords tells u, r and t of light from one side; r and t only where u is none of 0.
func sideByWords(p impl.ModPlate, before int64, behind int64) (int64, int64, int64) {
	b := bigPlus(bigOf(p.A), bigTimes(bigOf(p.B), bigOf(behind)))
	c := bigPlus(bigOf(p.C), bigTimes(bigOf(p.D), bigOf(behind)))
	first := bigTimes(bigOf(before), b)
	u := bigPlus(first, c)
	if residue(u) == 0 {
		return 0, 0, 0
	}
	return residue(u), residue(bigOver(new(big.Int).Sub(first, c), u)), residue(bigOver(bigTimes(bigOf(2), bigOf(before)), u))
}

func seenFromBehind(p impl.ModPlate) impl.ModPlate {
	return impl.ModPlate{A: p.D, B: p.B, C: p.C, D: p.A}
}

func booksByWords(p impl.ModPlate, before int64, behind int64) impl.WaveResult {
	u, r, through := sideByWords(p, before, behind)
	v, s, back := sideByWords(seenFromBehind(p), behind, before)
	if u == 0 || v == 0 {
		return noWave(impl.ErrZero)
	}
	return toldWave(r, through, s, back)
}

func holdFilm(t *testing.T, index int64, phase int64, want impl.ModPlate) {
	t.Helper()
	if got, again := impl.ModFilm(index, phase), impl.ModFilm(index, phase); got != want || again != want {
		t.Errorf("ModFilm(%d, %d) = %v, then %v, want %v", index, phase, got, again, want)
	}
}

func holdModStack(t *testing.T, what string, list []impl.ModPlate, want impl.ModPlate) {
	t.Helper()
	kept := slices.Clone(list[:cap(list)])
	if got, again := impl.ModStack(list), impl.ModStack(list); got != want || again != want {
		t.Errorf("%s: ModStack(%s) = %v, then %v, want %v", what, brief(list), got, again, want)
	}
	if !slices.Equal(kept, list[:cap(list)]) {
		t.Errorf("%s: ModStack changes %s", what, brief(list))
	}
}

func holdBooks(t *testing.T, what string, p impl.ModPlate, before int64, behind int64, want impl.WaveResult) {
	t.Helper()
	kept := p
	holdWave(t, what, func() impl.WaveResult { return impl.ModBooks(p, before, behind) }, want, []int64{p.A, p.B, p.C, p.D, before, behind})
	if p != kept {
		t.Errorf("%s: %v is changed", what, kept)
	}
}

func drawnModPlate(draw *numbers) impl.ModPlate {
	list := drawnWave(draw, 4)
	return impl.ModPlate{A: list[0], B: list[1], C: list[2], D: list[3]}
}

func drawnModFilms(draw *numbers, count int) []impl.ModPlate {
	list := make([]impl.ModPlate, count)
	for i := range list {
		list[i] = impl.ModFilm(drawnBeam(draw, 1)[0], draw.next())
	}
	return roomy(list, impl.ModPlate{A: 9, B: 9, C: 9, D: 9})
}

func modPhases() []int64 {
	const round = impl.Prime - 1
	list := []int64{math.MinInt64, math.MinInt64 + 1, math.MaxInt64, math.MaxInt64 - 1, math.MinInt64 / round * round, math.MaxInt64 / round * round}
	for _, near := range []int64{-2, -1, 0, 1, 2, 3} {
		list = append(list, near, round+near, -round+near, round/2+near, round/4+near, 3*round+near)
	}
	return list
}

func TestModFilmTold(t *testing.T) {
	const p = impl.Prime
	holdFilm(t, 1, 1, impl.ModPlate{A: 665496237, B: 332748119, C: 332748119, D: 665496237})
	holdFilm(t, 2, 1, impl.ModPlate{A: 665496237, B: 665496236, C: 665496238, D: 665496237})
	holdFilm(t, 2, 2, impl.ModPlate{A: 221832083, B: 887328316, C: 554580205, D: 221832083})
	holdFilm(t, 2, -1, impl.ModPlate{A: 665496237, B: 332748117, C: 332748115, D: 665496237})
	holdFilm(t, 2, p-2, impl.ModPlate{A: 665496237, B: 332748117, C: 332748115, D: 665496237})
	holdFilm(t, 2, (p-1)/2, impl.ModPlate{A: p - 1, D: p - 1})
	holdFilm(t, 2, (p-1)/4, impl.ModPlate{B: 954952494, C: 825076917})
	holdFilm(t, -3, 5, impl.ModPlate{A: 303992229, B: 101330662, C: 911975958, D: 303992229})
	holdFilm(t, p-3, 5, impl.ModPlate{A: 303992229, B: 101330662, C: 911975958, D: 303992229})
	for _, phase := range []int64{0, p - 1, 1 - p, 2 * (p - 1)} {
		holdFilm(t, 5, phase, impl.ModPlate{A: 1, D: 1})
	}
	// A turn of phases has Prime - 1 of them, not Prime.
	holdFilm(t, 2, p, impl.ModFilm(2, 1))
	holdFilm(t, 2, -p, impl.ModFilm(2, -1))
}

func TestModFilmByWords(t *testing.T) {
	draw := numbers{state: 1141}
	for _, phase := range append(modPhases(), draw.next(), draw.next(), draw.next()) {
		for _, index := range anyNumbers() {
			holdFilm(t, index, phase, modFilmByWords(index, phase))
		}
		for _, nought := range noughts() {
			holdFilm(t, nought, phase, impl.ModPlate{})
		}
	}
}

func TestModFilmsHaveTheDeterminantOne(t *testing.T) {
	for _, phase := range modPhases() {
		for _, index := range anyNumbers() {
			if film := impl.ModFilm(index, phase); film != (impl.ModPlate{}) && modDet(film) != 1 {
				t.Errorf("ModFilm(%d, %d) = %v has the determinant %d", index, phase, film, modDet(film))
			}
		}
	}
	draw := numbers{state: 1142}
	for count := range 40 {
		if stack := impl.ModStack(drawnModFilms(&draw, count)); modDet(stack) != 1 {
			t.Errorf("%d films: %v has the determinant %d", count, stack, modDet(stack))
		}
	}
}

// TestModFilmsAddUpTheirPhases: two films of one index are one of both phases, and one of the opposite phase undoes it.
func TestModFilmsAddUpTheirPhases(t *testing.T) {
	draw := numbers{state: 1143}
	for _, first := range append(modPhases(), draw.next()) {
		for _, second := range append(modPhases(), draw.next()) {
			index := drawnBeam(&draw, 1)[0]
			both := leftOf(first, impl.Prime-1) + leftOf(second, impl.Prime-1)
			holdModStack(t, "two films", []impl.ModPlate{impl.ModFilm(index, first), impl.ModFilm(index, second)}, impl.ModFilm(index, both))
		}
		opposite := -leftOf(first, impl.Prime-1)
		holdModStack(t, "undone", []impl.ModPlate{impl.ModFilm(7, first), impl.ModFilm(7, opposite)}, impl.ModPlate{A: 1, D: 1})
	}
}

func TestModStackTold(t *testing.T) {
	const p = impl.Prime
	one := impl.ModPlate{A: 1, D: 1}
	for _, none := range [][]impl.ModPlate{nil, {}, make([]impl.ModPlate, 0, 3)} {
		holdModStack(t, "none", none, one)
	}
	first, second := impl.ModPlate{A: 1, B: 2, C: 3, D: 4}, impl.ModPlate{A: 5, B: 6, C: 7, D: 8}
	holdModStack(t, "one", []impl.ModPlate{first}, first)
	holdModStack(t, "two", []impl.ModPlate{first, second}, impl.ModPlate{A: 19, B: 22, C: 43, D: 50})
	holdModStack(t, "two", []impl.ModPlate{second, first}, impl.ModPlate{A: 23, B: 34, C: 31, D: 46})
	holdModStack(t, "three", []impl.ModPlate{first, second, {B: 1, C: 1}}, impl.ModPlate{A: 22, B: 19, C: 50, D: 43})
	holdModStack(t, "dark", []impl.ModPlate{first, {}, second}, impl.ModPlate{})
	holdModStack(t, "no residues", []impl.ModPlate{{A: -1, B: p, C: -p, D: p + 1}}, impl.ModPlate{A: p - 1, D: 1})
	holdModStack(t, "no residues", []impl.ModPlate{{A: -1, B: 2, C: p + 1, D: 1 - p}, one}, impl.ModPlate{A: p - 1, B: 2, C: 1, D: 1})
}

func TestModStackByWords(t *testing.T) {
	draw := numbers{state: 1144}
	for count := range 60 {
		list := make([]impl.ModPlate, count)
		for i := range list {
			list[i] = drawnModPlate(&draw)
		}
		list = roomy(list, impl.ModPlate{A: 9, B: 9, C: 9, D: 9})
		holdModStack(t, "drawn", list, modStackByWords(list))
		part := draw.below(int64(count) + 1)
		holdModStack(t, "in parts", []impl.ModPlate{impl.ModStack(list[:part]), impl.ModStack(list[part:])}, modStackByWords(list))
	}
	for _, number := range anyNumbers() {
		for place := range 4 {
			list := drawnWave(&draw, 4)
			list[place] = number
			plate := impl.ModPlate{A: list[0], B: list[1], C: list[2], D: list[3]}
			holdModStack(t, "edge", []impl.ModPlate{plate}, modStackByWords([]impl.ModPlate{plate}))
			holdModStack(t, "edge twice", []impl.ModPlate{plate, plate}, modStackByWords([]impl.ModPlate{plate, plate}))
		}
	}
	long := make([]impl.ModPlate, 20000)
	for i := range long {
		long[i] = impl.ModFilm(3, 1)
	}
	holdModStack(t, "long", long, impl.ModFilm(3, 20000))
}
