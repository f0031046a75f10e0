package tests

import (
	"math"
	"math/big"
	"slices"
	"testing"

	"loop.example/g00049/impl"
)

func noShares(code int64) impl.ShareResult {
	return impl.ShareResult{Code: code}
}

func toldShares(list ...impl.Share) impl.ShareResult {
	return impl.ShareResult{Shares: list}
}

func share(at int64, value int64) impl.Share {
	return impl.Share{At: at, Value: value}
}

// shareByWords adds up big powers, and takes what is left at the end.
func shareByWords(list []int64, at int64) impl.Share {
	sum := new(big.Int)
	for i, number := range list {
		power := new(big.Int).Exp(big.NewInt(at), big.NewInt(int64(i)), nil)
		sum.Add(sum, power.Mul(power, big.NewInt(number)))
	}
	return share(at, residue(sum))
}

func sharesByWords(list []int64, many int64) impl.ShareResult {
	switch {
	case len(list) == 0 || many < int64(len(list)):
		return noShares(impl.ErrForm)
	case many > 60:
		return noShares(impl.ErrMany)
	}
	shares := []impl.Share{}
	for at := int64(1); at <= many; at++ {
		shares = append(shares, shareByWords(list, at))
	}
	return toldShares(shares...)
}

// sharesCode is the code of all that is asked ahead of reckoning.
func sharesCode(list []impl.Share, many int64) int64 {
	if len(list) > 60 {
		return impl.ErrMany
	}
	if many < 1 || many > 24 {
		return impl.ErrForm
	}
	for i, one := range list {
		again := slices.ContainsFunc(list[:i], func(other impl.Share) bool { return other.At == one.At })
		if one.At < 1 || one.At > 60 || again {
			return impl.ErrForm
		}
	}
	if int64(len(list)) < many {
		return impl.ErrNone
	}
	return impl.OK
}

func sameShares(a impl.ShareResult, b impl.ShareResult) bool {
	return a.Code == b.Code && slices.Equal(a.Shares, b.Shares)
}

// holdShareOut asks twice, looks whether the list is left alone, and writes over the first answer ahead of looking at the second.
func holdShareOut(t *testing.T, what string, list []int64, many int64, want impl.ShareResult) {
	t.Helper()
	given := givenNumbers(list)
	kept := slices.Clone(given[:cap(given)])
	got, again := impl.ShareOut(given, many), impl.ShareOut(given, many)
	if !sameShares(got, want) {
		t.Errorf("%s: ShareOut(%s, %d) = %s, want %s", what, brief(list), many, brief(got), brief(want))
	}
	if got.Code != impl.OK && len(got.Shares) != 0 {
		t.Errorf("%s: code %d with shares", what, got.Code)
	}
	all := got.Shares[:cap(got.Shares)]
	for i := range all {
		all[i] = share(-7, -7)
	}
	if !sameShares(again, want) {
		t.Errorf("%s: ShareOut(%s, %d) is %s when asked again, want %s", what, brief(list), many, brief(again), brief(want))
	}
	if !slices.Equal(given[:cap(given)], kept) {
		t.Errorf("%s: ShareOut changes %s", what, brief(list))
	}
}

func holdShareIn(t *testing.T, what string, list []impl.Share, many int64, want impl.WaveResult) {
	t.Helper()
	given := list
	if list != nil {
		given = roomy(list, share(59, 7))
	}
	kept := slices.Clone(given[:cap(given)])
	ask := func() impl.WaveResult { return impl.ShareIn(given, many) }
	holdWave(t, what+", ShareIn of "+brief(list), ask, want)
	if !slices.Equal(given[:cap(given)], kept) {
		t.Errorf("%s: ShareIn changes %s", what, brief(list))
	}
}

// shuffled are the same ones in an order that is drawn.
func shuffled[T any](draw *numbers, list []T) []T {
	mixed := slices.Clone(list)
	for i := range mixed {
		j := i + int(draw.below(int64(len(mixed)-i)))
		mixed[i], mixed[j] = mixed[j], mixed[i]
	}
	return mixed
}

func TestShareOutTold(t *testing.T) {
	holdShareOut(t, "a line", []int64{5, 6}, 4, toldShares(share(1, 11), share(2, 17), share(3, 23), share(4, 29)))
	holdShareOut(t, "a constant", []int64{7}, 3, toldShares(share(1, 7), share(2, 7), share(3, 7)))
	holdShareOut(t, "three numbers", []int64{1, 2, 3}, 3, toldShares(share(1, 6), share(2, 17), share(3, 34)))
	holdShareOut(t, "below 0", []int64{-1, -1}, 2, toldShares(share(1, impl.Prime-2), share(2, impl.Prime-3)))
	holdShareOut(t, "above the prime", []int64{impl.Prime + 5, 2*impl.Prime + 6}, 2, toldShares(share(1, 11), share(2, 17)))
	holdShareOut(t, "noughts", []int64{0, impl.Prime, -impl.Prime}, 3, toldShares(share(1, 0), share(2, 0), share(3, 0)))
	holdShareOut(t, "one of one", []int64{math.MaxInt64}, 1, sharesByWords([]int64{math.MaxInt64}, 1))
}

func TestShareOutByWords(t *testing.T) {
	draw := numbers{state: 1770}
	for count := 1; count <= 60; count++ {
		for _, many := range []int64{int64(count), min(int64(count)+1, 60), 60} {
			list := []int64(drawnWave(&draw, count))
			holdShareOut(t, "drawn", list, many, sharesByWords(list, many))
		}
	}
	for _, a := range anyNumbers() {
		for _, b := range anyNumbers() {
			holdShareOut(t, "edges", []int64{a, b}, 2, sharesByWords([]int64{a, b}, 2))
		}
	}
}

// TestShareOutOfWrongNumbers: the form comes ahead of there being too many.
func TestShareOutOfWrongNumbers(t *testing.T) {
	for _, many := range []int64{math.MinInt64, -1, 0, 1, 2, 59, 60, 61, 62, 1 << 32, math.MaxInt64} {
		holdShareOut(t, "nil", nil, many, noShares(impl.ErrForm))
		holdShareOut(t, "none", []int64{}, many, noShares(impl.ErrForm))
	}
	for _, count := range []int{1, 2, 3, 24, 25, 59, 60, 61, 62, 100, 1000} {
		list := slices.Repeat([]int64{3}, count)
		for _, many := range []int64{math.MinInt64, math.MinInt64 + 1, -1, 0, int64(count) - 1} {
			holdShareOut(t, "too few", list, many, noShares(impl.ErrForm))
		}
		for _, many := range []int64{61, 62, 100, 1000, 1 << 32, 1<<32 + 60, math.MaxInt64} {
			holdShareOut(t, "too many", list, many, sharesByWords(list, many))
		}
		holdShareOut(t, "as many", list, int64(count), sharesByWords(list, int64(count)))
	}
	holdShareOut(t, "61 of 60", make([]int64, 60), 61, noShares(impl.ErrMany))
	holdShareOut(t, "60 of 61", make([]int64, 61), 60, noShares(impl.ErrForm))
	holdShareOut(t, "61 of 61", make([]int64, 61), 61, noShares(impl.ErrMany))
}

func TestShareInTold(t *testing.T) {
	holdShareIn(t, "a line", []impl.Share{share(3, 23), share(4, 29)}, 2, toldWave(5, 6))
	holdShareIn(t, "from behind", []impl.Share{share(4, 29), share(1, 11)}, 2, toldWave(5, 6))
	holdShareIn(t, "a constant", []impl.Share{share(60, 7)}, 1, toldWave(7))
	holdShareIn(t, "three numbers", []impl.Share{share(3, 34), share(1, 6), share(2, 17)}, 3, toldWave(1, 2, 3))
	holdShareIn(t, "half", []impl.Share{share(1, 0), share(3, 1)}, 2, toldWave(499122176, 499122177))
	holdShareIn(t, "more than needed", []impl.Share{share(3, 23), share(4, 29), share(1, 11)}, 2, toldWave(5, 6))
	holdShareIn(t, "as three numbers", []impl.Share{share(3, 23), share(4, 29), share(1, 11)}, 3, toldWave(5, 6, 0))
	holdShareIn(t, "another further one", []impl.Share{share(3, 23), share(4, 29), share(1, 12)}, 2, noWave(impl.ErrForm))
	holdShareIn(t, "alike by its residue", []impl.Share{share(3, 23), share(4, 29), share(1, 11-impl.Prime)}, 2, toldWave(5, 6))
	holdShareIn(t, "all by their residues", []impl.Share{share(3, 23-impl.Prime), share(4, 29+impl.Prime), share(1, 11+5*impl.Prime)}, 2, toldWave(5, 6))
}

// TestSharesComeBack: any so many shares, in any order, give the list; and so do more of them.
func TestSharesComeBack(t *testing.T) {
	draw := numbers{state: 1771}
	for count := 1; count <= 24; count++ {
		for range 12 {
			list := []int64(drawnWave(&draw, count))
			all := shuffled(&draw, impl.ShareOut(list, 60).Shares)
			want := toldWave(residuesOf(list)...)
			many := int64(count)
			holdShareIn(t, "just so many", all[:count], many, want)
			holdShareIn(t, "one more", all[:count+1], many, want)
			holdShareIn(t, "all", all, many, want)
			for i := range all {
				// By as many primes as there is room for on both sides of 0.
				all[i].Value += (draw.below(18000000000) - 9000000000) * impl.Prime
			}
			holdShareIn(t, "by their residues", all, many, want)
			longer := toldWave(append(residuesOf(list), make([]int64, 24-count)...)...)
			holdShareIn(t, "as more numbers", all[:24+draw.below(37)], 24, longer)
		}
	}
}

// TestShareInOfAllPairs: every two of the sixty shares of a line.
func TestShareInOfAllPairs(t *testing.T) {
	all := impl.ShareOut([]int64{-5, 123456789012}, 60).Shares
	want := residuesOf([]int64{-5, 123456789012})
	for i, one := range all {
		for j, other := range all {
			if i == j {
				continue
			}
			if got := impl.ShareIn([]impl.Share{one, other}, 2); got.Code != impl.OK || !slices.Equal(got.List, want) {
				t.Errorf("shares %d and %d: %v", i, j, got)
			}
		}
	}
}

// TestShareInOfAnyValues: so many values, whatever they are, are the first shares of just one list.
func TestShareInOfAnyValues(t *testing.T) {
	draw := numbers{state: 1772}
	for count := 1; count <= 24; count++ {
		for range 5 {
			places := shuffled(&draw, impl.ShareOut([]int64{0}, 60).Shares)[:count]
			for i, value := range drawnWave(&draw, count) {
				places[i].Value = value
			}
			got := impl.ShareIn(places, int64(count))
			if got.Code != impl.OK || len(got.List) != count {
				t.Fatalf("%d shares: %s", count, brief(got))
			}
			for _, one := range places {
				if back := shareByWords(got.List, one.At); back.Value != residue(big.NewInt(one.Value)) {
					t.Errorf("%d shares: at %d the list has %d, not %d", count, one.At, back.Value, one.Value)
				}
			}
			holdShareIn(t, "drawn", places, int64(count), toldWave(residuesOf(got.List)...))
		}
	}
}

// TestShareInOfAnotherShare: one share that is not right is told if there is one more than needed, whichever it is.
func TestShareInOfAnotherShare(t *testing.T) {
	draw := numbers{state: 1773}
	for _, count := range []int64{1, 2, 5, 23, 24} {
		for _, more := range []int64{1, 2, 60 - count} {
			all := shuffled(&draw, impl.ShareOut(drawnWave(&draw, int(count)), 60).Shares)[:count+more]
			for at := range all {
				for _, change := range []int64{1, -1, 2 * impl.Prime, 1 << 40} {
					wrong := slices.Clone(all)
					wrong[at].Value += change
					got := impl.ShareIn(wrong, count)
					if residue(big.NewInt(change)) == 0 {
						if got.Code != impl.OK {
							t.Errorf("share %d of %d, %d primes more: code %d", at, len(all), change/impl.Prime, got.Code)
						}
					} else if got.Code != impl.ErrForm || len(got.List) != 0 {
						t.Errorf("share %d of %d, %d more: %s", at, len(all), change, brief(got))
					}
				}
			}
		}
	}
}

func TestShareInOfWrongNumbers(t *testing.T) {
	wrongMany := []int64{0, -1, -2, -24, 25, 26, 60, 61, 1 << 32, 1<<32 + 1, math.MaxInt64, math.MinInt64, math.MinInt64 + 1}
	right := impl.ShareOut([]int64{4, 5, 6}, 60).Shares
	for _, many := range wrongMany {
		for _, count := range []int{0, 1, 2, 24, 25, 26, 60} {
			holdShareIn(t, "many", right[:count], many, noWave(impl.ErrForm))
		}
		holdShareIn(t, "many and nil", nil, many, noWave(impl.ErrForm))
	}
	for _, many := range []int64{1, 2, 3, 23, 24} {
		holdShareIn(t, "nil", nil, many, noWave(impl.ErrNone))
		for count := range int(many) {
			holdShareIn(t, "too few", right[:count], many, noWave(impl.ErrNone))
		}
	}
	long := slices.Concat(right, []impl.Share{share(61, 0)})
	for _, many := range append(wrongMany, 1, 2, 3, 24) {
		holdShareIn(t, "too many", long, many, noWave(impl.ErrMany))
		holdShareIn(t, "too many, alike", slices.Repeat([]impl.Share{share(1, 1)}, 61), many, noWave(impl.ErrMany))
		holdShareIn(t, "far too many", make([]impl.Share, 1000), many, noWave(impl.ErrMany))
	}
	holdShareIn(t, "sixty", right, 24, toldWave(append([]int64{4, 5, 6}, make([]int64, 21)...)...))
	holdShareIn(t, "sixty", right, 3, toldWave(4, 5, 6))
}

// TestShareInOfWrongPlaces: they come ahead of there being too few shares, and of shares that don't go together.
func TestShareInOfWrongPlaces(t *testing.T) {
	right := impl.ShareOut([]int64{4, 5, 6}, 60).Shares
	for _, wrong := range []int64{0, -1, -2, -60, 61, 62, 1 << 32, 1<<32 + 1, impl.Prime, impl.Prime + 59, math.MaxInt64, math.MinInt64, math.MinInt64 + 1} {
		for _, count := range []int{1, 2, 3, 4, 30, 60} {
			for _, at := range []int{0, count / 2, count - 1} {
				list := slices.Clone(right[:count])
				list[at].At = wrong
				for _, many := range []int64{1, 2, 3, 24} {
					holdShareIn(t, "place", list, many, noWave(impl.ErrForm))
				}
			}
		}
	}
	for _, count := range []int{2, 3, 4, 60} {
		for _, pair := range [][2]int{{0, 1}, {0, count - 1}, {count - 2, count - 1}} {
			list := slices.Clone(right[:count])
			list[pair[1]].At = list[pair[0]].At
			for _, many := range []int64{1, 2, 3, 24} {
				holdShareIn(t, "told twice", list, many, noWave(impl.ErrForm))
			}
			list[pair[1]].Value = list[pair[0]].Value
			for _, many := range []int64{1, 2, 3, 24} {
				holdShareIn(t, "the same twice", list, many, noWave(impl.ErrForm))
			}
		}
	}
	holdShareIn(t, "both edges", []impl.Share{right[59], right[0], right[30]}, 3, toldWave(4, 5, 6))
}

// TestShareInFaultsInTheirOrder: of lists with faults of several kinds.
func TestShareInFaultsInTheirOrder(t *testing.T) {
	draw := numbers{state: 1774}
	codes := map[int64]int{}
	for range 3000 {
		list := shuffled(&draw, impl.ShareOut([]int64{9}, 60).Shares)[:draw.below(8)]
		if draw.below(3) == 0 {
			list = slices.Repeat(list, 20)
		}
		for range draw.below(2) * int64(min(len(list), 1)) {
			list[draw.below(int64(len(list)))].At = draw.below(70) - 3
		}
		many := draw.below(30) - 2
		if draw.below(2) == 0 {
			many = 1 + draw.below(5)
		}
		code := sharesCode(list, many)
		codes[code]++
		switch got := impl.ShareIn(list, many); {
		case code != impl.OK:
			holdShareIn(t, "drawn", list, many, noWave(code))
		case got.Code == impl.OK && (int64(len(got.List)) != many || shareByWords(got.List, list[0].At).Value != 9):
			t.Errorf("ShareIn(%v, %d) = %v", list, many, got)
		}
	}
	for _, code := range []int64{impl.OK, impl.ErrMany, impl.ErrForm, impl.ErrNone} {
		if codes[code] < 100 {
			t.Error("too few of a code", codes)
		}
	}
}
