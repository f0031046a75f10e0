package tests

import (
	"math"
	"math/big"
	"slices"
	"testing"

	"loop.example/g00049/impl"
)

func visibilityByWords(list []int64) impl.VisResult {
	if len(list) == 0 {
		return noVisibility(impl.ErrForm)
	}
	if slices.ContainsFunc(list, func(n int64) bool { return n < 0 || n > 100000000 }) {
		return noVisibility(impl.ErrRange)
	}
	sorted := slices.Sorted(slices.Values(list))
	least, greatest := sorted[0], sorted[len(sorted)-1]
	if greatest == 0 {
		return noVisibility(impl.ErrZero)
	}
	ratio := big.NewRat(greatest-least, greatest+least)
	return seenAs(ratio.Num().Int64(), ratio.Denom().Int64())
}

func noVisibility(code int64) impl.VisResult {
	return impl.VisResult{Code: code}
}

func seenAs(num int64, den int64) impl.VisResult {
	return impl.VisResult{Frac: impl.Frac{Num: num, Den: den}}
}

func holdVisible(t *testing.T, what string, list []int64, want impl.VisResult) {
	t.Helper()
	given := roomy(list, -5)
	if list == nil {
		given = nil
	}
	kept := slices.Clone(given[:cap(given)])
	for range 2 {
		if got := impl.VisibilityOf(given); got != want {
			t.Errorf("%s: VisibilityOf(%s) = %v, want %v", what, brief(list), got, want)
		}
	}
	if !slices.Equal(given[:cap(given)], kept) {
		t.Errorf("%s: VisibilityOf changes %s", what, brief(list))
	}
}

func TestVisibilityTold(t *testing.T) {
	for _, one := range []struct {
		what string
		list []int64
		want impl.VisResult
	}{
		{"none", []int64{}, noVisibility(impl.ErrForm)},
		{"nil", nil, noVisibility(impl.ErrForm)},
		{"one", []int64{7}, seenAs(0, 1)},
		{"one of 1", []int64{1}, seenAs(0, 1)},
		{"the greatest alone", []int64{100000000}, seenAs(0, 1)},
		{"all alike", []int64{6, 6, 6}, seenAs(0, 1)},
		{"two", []int64{1, 3}, seenAs(1, 2)},
		{"two turned round", []int64{3, 1}, seenAs(1, 2)},
		{"many", []int64{4, 2, 9, 6, 5}, seenAs(7, 11)},
		{"least and greatest within", []int64{5, 1, 9, 5}, seenAs(4, 5)},
		{"to be divided", []int64{20, 60, 40}, seenAs(1, 2)},
		{"dark and light", []int64{0, 5}, seenAs(1, 1)},
		{"dark and light at the bounds", []int64{0, 100000000}, seenAs(1, 1)},
		{"light and dark at the bounds", []int64{100000000, 0, 3}, seenAs(1, 1)},
		{"the bounds beside each other", []int64{100000000, 99999999}, seenAs(1, 199999999)},
		{"one of 0", []int64{0}, noVisibility(impl.ErrZero)},
		{"all 0", []int64{0, 0, 0}, noVisibility(impl.ErrZero)},
		{"one below 0", []int64{-1}, noVisibility(impl.ErrRange)},
		{"a last one below 0", []int64{1, 2, -1}, noVisibility(impl.ErrRange)},
		{"a first one below 0", []int64{-1, 2, 3}, noVisibility(impl.ErrRange)},
		{"one too great", []int64{100000001}, noVisibility(impl.ErrRange)},
		{"a last one too great", []int64{5, 100000001}, noVisibility(impl.ErrRange)},
		{"a first one too great", []int64{100000001, 5}, noVisibility(impl.ErrRange)},
		{"noughts and one below", []int64{0, 0, -1}, noVisibility(impl.ErrRange)},
		{"noughts and one too great", []int64{0, 100000001, 0}, noVisibility(impl.ErrRange)},
		{"the least of all", []int64{5, math.MinInt64}, noVisibility(impl.ErrRange)},
		{"the greatest of all", []int64{5, math.MaxInt64}, noVisibility(impl.ErrRange)},
		{"both", []int64{math.MinInt64, math.MaxInt64}, noVisibility(impl.ErrRange)},
		{"the least and 0", []int64{math.MinInt64, 0}, noVisibility(impl.ErrRange)},
		{"beyond 32 bits", []int64{1 << 32, 1}, noVisibility(impl.ErrRange)},
	} {
		holdVisible(t, one.what, one.list, one.want)
	}
}

func TestVisibilityByWords(t *testing.T) {
	draw := numbers{state: 1441}
	for round := range 3000 {
		most := []int64{2, 5, 100, 1000000, 100000001, 100000003}[draw.below(6)]
		list := []int64{}
		for range round % 9 {
			list = append(list, draw.below(most))
			if draw.below(60) == 0 {
				list = append(list, drawnPhase(&draw))
			}
		}
		holdVisible(t, "drawn", list, visibilityByWords(list))
	}
	for a := range int64(40) {
		for b := range int64(40) {
			holdVisible(t, "two", []int64{a, b}, visibilityByWords([]int64{a, b}))
			holdVisible(t, "two beside the bound", []int64{100000010 - a, 100000010 - b}, visibilityByWords([]int64{100000010 - a, 100000010 - b}))
		}
	}
	long := slices.Repeat([]int64{3}, 100000)
	long[77777], long[99999] = 2, 4
	holdVisible(t, "a long list", long, seenAs(1, 3))
}

// TestVisibilityIsRight: what is told is a right fraction from 0 to 1.
func TestVisibilityIsRight(t *testing.T) {
	draw := numbers{state: 1442}
	for range 2000 {
		list := []int64{draw.below(100000001), draw.below(100000001), draw.below(1000)}
		got := impl.VisibilityOf(list)
		if got.Code != impl.OK || impl.FracFault(got.Frac) != impl.OK || got.Frac.Num < 0 || got.Frac.Num > got.Frac.Den {
			t.Errorf("VisibilityOf(%v) = %v", list, got)
		}
	}
}
