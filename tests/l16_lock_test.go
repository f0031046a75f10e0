package tests

import (
	"math"
	"math/big"
	"slices"
	"testing"

	"loop.example/g00049/impl"
)

func noLock(code int64) impl.LockResult {
	return impl.LockResult{Code: code}
}

func toldLock(in int64, quad int64) impl.LockResult {
	return impl.LockResult{In: in, Quad: quad}
}

// lockByWords asks for each code of all the arguments ahead of the next code, and adds up big numbers.
func lockByWords(list []int64, period int64) impl.LockResult {
	switch {
	case !slices.Contains(rightPeriods(), period) || len(list) == 0 || len(list)%int(period) != 0:
		return noLock(impl.ErrForm)
	case len(list) > 4000:
		return noLock(impl.ErrMany)
	case slices.Min(list) < -1000000000 || slices.Max(list) > 1000000000:
		return noLock(impl.ErrRange)
	}
	return toldLock(turnedSum(list, period, 0), turnedSum(list, period, period/4))
}

func turnedSum(list []int64, period int64, more int64) int64 {
	sum := new(big.Int)
	for place, n := range list {
		number := big.NewInt(n)
		if (int64(place)+more)%period >= period/2 {
			number.Neg(number)
		}
		sum.Add(sum, number)
	}
	return sum.Int64()
}

func rightPeriods() []int64 {
	list := []int64{}
	for period := int64(4); period <= 1000; period += 4 {
		list = append(list, period)
	}
	return list
}

func holdLock(t *testing.T, what string, list []int64, period int64, want impl.LockResult) {
	t.Helper()
	given := roomy(list, -5)
	if list == nil {
		given = nil
	}
	kept := slices.Clone(given[:cap(given)])
	for range 2 {
		if got := impl.LockIn(given, period); got != want {
			t.Errorf("%s: LockIn(%s, %d) = %v, want %v", what, brief(list), period, got, want)
		}
	}
	if !slices.Equal(given[:cap(given)], kept) {
		t.Errorf("%s: LockIn changes %s", what, brief(list))
	}
}

// drawnReadings are within their bounds, at times at them.
func drawnReadings(draw *numbers, count int64) []int64 {
	list := make([]int64, count)
	for i := range list {
		list[i] = draw.below(2000000001) - 1000000000
		if draw.below(5) == 0 {
			list[i] = 1000000000 - 2000000000*draw.below(2)
		}
	}
	return list
}

func TestLockInTold(t *testing.T) {
	holdLock(t, "a square wave", []int64{1, 1, -1, -1}, 4, toldLock(4, 0))
	holdLock(t, "a quarter later", []int64{-1, 1, 1, -1}, 4, toldLock(0, -4))
	holdLock(t, "a quarter earlier", []int64{1, -1, -1, 1}, 4, toldLock(0, 4))
	holdLock(t, "turned round", []int64{-1, -1, 1, 1}, 4, toldLock(-4, 0))
	holdLock(t, "four numbers", []int64{1, 10, 100, 1000}, 4, toldLock(1+10-100-1000, 1-10-100+1000))
	holdLock(t, "eight numbers by fours", []int64{1, 10, 100, 1000, 20, 300, 4000, 50000}, 4, toldLock(11+320-1100-54000, 1001-110+50020-4300))
	holdLock(t, "eight numbers", []int64{1, 10, 100, 1000, 20, 300, 4000, 50000}, 8, toldLock(1111-54320, 11-1100-320+54000))
	holdLock(t, "alternating", []int64{5, -5, 5, -5, 5, -5, 5, -5}, 8, toldLock(0, 0))
	holdLock(t, "noughts", make([]int64, 4), 4, toldLock(0, 0))
}

// TestLockInPlaces: a single number tells how its place counts.
func TestLockInPlaces(t *testing.T) {
	for _, period := range []int64{4, 8, 12, 20, 996, 1000} {
		for _, times := range []int64{1, 2, 4} {
			for place := range period * times {
				list := make([]int64, period*times)
				list[place] = 7
				in, quad := int64(7), int64(7)
				if at := place % period; at >= period/2 {
					in = -7
				}
				if at := place % period; at >= period/4 && at < period/4*3 {
					quad = -7
				}
				if got := impl.LockIn(list, period); got != toldLock(in, quad) {
					t.Errorf("7 at place %d of %d, period %d: %v, want %d, %d", place, len(list), period, got, in, quad)
				}
			}
		}
	}
}

func TestLockInOfEveryPeriod(t *testing.T) {
	draw := numbers{state: 1610}
	for period := int64(-8); period <= 1100; period++ {
		for _, count := range []int64{period, 2 * period, 4000, 4000 / max(period, 1) * period} {
			list := drawnReadings(&draw, max(count, 0))
			holdLock(t, "drawn", list, period, lockByWords(list, period))
		}
	}
}

func TestLockInOfWrongPeriods(t *testing.T) {
	draw := numbers{state: 1611}
	for _, period := range []int64{0, 1, 2, 3, 5, 6, 7, 10, 998, 999, 1001, 1002, 1004, 2000, 4000, 1<<32 + 4, math.MaxInt64, math.MaxInt64 - 3, -1, -2, -4, -8, -1000, math.MinInt64, math.MinInt64 + 4} {
		for _, count := range []int64{0, 1, 4, 6, 8, 12, 1000, 1004, 2000, 4000, 4004, 8000, 12000} {
			holdLock(t, "period", drawnReadings(&draw, count), period, noLock(impl.ErrForm))
			holdLock(t, "period and numbers", slices.Repeat([]int64{math.MaxInt64}, int(count)), period, noLock(impl.ErrForm))
		}
		holdLock(t, "period and nil", nil, period, noLock(impl.ErrForm))
	}
}

func TestLockInLengths(t *testing.T) {
	for _, period := range []int64{4, 8, 12, 500, 1000} {
		holdLock(t, "nil", nil, period, noLock(impl.ErrForm))
		for _, count := range []int{0, 1, 2, 3, 4, 5, 7, 8, 9, 12, 16, 24, 499, 500, 501, 999, 1000, 1001, 1500, 2000, 3984, 3996, 3999, 4000, 4001, 4004, 4008, 4500, 4999, 5000, 8000} {
			want := toldLock(0, 0)
			switch {
			case count == 0 || count%int(period) != 0:
				want = noLock(impl.ErrForm)
			case count > 4000:
				want = noLock(impl.ErrMany)
			}
			holdLock(t, "ones", slices.Repeat([]int64{1}, count), period, want)
		}
	}
}

func TestLockInOfWrongNumbers(t *testing.T) {
	for _, period := range []int64{4, 8, 1000} {
		for _, count := range []int64{period, 4000} {
			for _, place := range []int64{0, 1, period / 4, period / 2, period - 1, count - 1} {
				for number, code := range map[int64]int64{
					1000000000: impl.OK, -1000000000: impl.OK, 1000000001: impl.ErrRange, -1000000001: impl.ErrRange,
					1 << 32: impl.ErrRange, -1 << 32: impl.ErrRange, math.MaxInt64: impl.ErrRange, math.MinInt64: impl.ErrRange, math.MinInt64 + 1: impl.ErrRange,
				} {
					list := make([]int64, count)
					list[place] = number
					want := lockByWords(list, period)
					holdLock(t, "one number", list, period, want)
					if want.Code != code {
						t.Errorf("the words tell %d of %d, not %d", want.Code, number, code)
					}
				}
			}
		}
	}
}

// TestLockInFaultsInTheirOrder: the form comes ahead of the length, and that ahead of the numbers.
func TestLockInFaultsInTheirOrder(t *testing.T) {
	wrong := func(count int) []int64 { return slices.Repeat([]int64{math.MinInt64}, count) }
	holdLock(t, "no multiple, too long", wrong(4001), 4, noLock(impl.ErrForm))
	holdLock(t, "no multiple, too long", wrong(4004), 1000, noLock(impl.ErrForm))
	holdLock(t, "too long, wrong numbers", wrong(4004), 4, noLock(impl.ErrMany))
	holdLock(t, "too long, wrong numbers", wrong(5000), 1000, noLock(impl.ErrMany))
	holdLock(t, "no multiple, wrong numbers", wrong(3999), 4, noLock(impl.ErrForm))
	holdLock(t, "wrong numbers", wrong(4000), 4, noLock(impl.ErrRange))
	holdLock(t, "a wrong period, too long", wrong(4004), 1001, noLock(impl.ErrForm))
}

// TestLockInOfConstants: a constant list is not seen, however long and however far from 0.
func TestLockInOfConstants(t *testing.T) {
	for _, period := range rightPeriods() {
		for _, number := range []int64{0, 1, -1, 12345, 1000000000, -1000000000} {
			for _, times := range []int64{1, 2, 3, 4000 / period} {
				holdLock(t, "constant", slices.Repeat([]int64{number}, int(period*times)), period, toldLock(0, 0))
			}
		}
	}
}

func TestLockInAtTheBounds(t *testing.T) {
	for _, period := range rightPeriods() {
		list := make([]int64, 4000/period*period)
		for i := range list {
			list[i] = 1000000000
			if int64(i)%period >= period/2 {
				list[i] = -1000000000
			}
		}
		holdLock(t, "greatest", list, period, toldLock(1000000000*int64(len(list)), 0))
	}
}

// TestLockInOfMovedLists: moved by a quarter of a period, In becomes Quad and Quad becomes In turned below 0.
func TestLockInOfMovedLists(t *testing.T) {
	draw := numbers{state: 1612}
	for _, period := range rightPeriods() {
		list := drawnReadings(&draw, period*(1+draw.below(4000/period)))
		lock := lockByWords(list, period)
		holdLock(t, "drawn", list, period, lock)
		quarter := period / 4
		later := slices.Concat(list[int64(len(list))-quarter:], list[:int64(len(list))-quarter])
		holdLock(t, "a quarter later", later, period, toldLock(lock.Quad, -lock.In))
		earlier := slices.Concat(list[quarter:], list[:quarter])
		holdLock(t, "a quarter earlier", earlier, period, toldLock(-lock.Quad, lock.In))
		half := slices.Concat(list[2*quarter:], list[:2*quarter])
		holdLock(t, "half a period", half, period, toldLock(-lock.In, -lock.Quad))
		whole := slices.Concat(list[4*quarter:], list[:4*quarter])
		holdLock(t, "a period", whole, period, lock)
	}
}
