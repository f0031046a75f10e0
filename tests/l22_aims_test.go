package tests

import (
	"fmt"
	"math"
	"slices"
	"testing"

	"loop.example/g00049/impl"
)

func aimOf(want int64, row ...int64) impl.Aim {
	return impl.Aim{Row: row, Want: want}
}

// pointOf has the same number in each dimension.
func pointOf(dims int64, number int64) []int64 {
	return slices.Repeat([]int64{number}, int(dims))
}

// evenAims are so many, of so many dimensions.
func evenAims(count int, dims int64) []impl.Aim {
	list := []impl.Aim{}
	for i := range count {
		list = append(list, aimOf(int64(i), pointOf(dims, int64(i)-3)...))
	}
	return list
}

func drawnPoint(draw *numbers, dims int64, most int64) []int64 {
	point := []int64{}
	for range dims {
		point = append(point, draw.below(2*most+1)-most)
	}
	return point
}

func drawnAims(draw *numbers, count int64, dims int64, weight int64, want int64) []impl.Aim {
	list := []impl.Aim{}
	for range count {
		list = append(list, aimOf(draw.below(2*want+1)-want, drawnPoint(draw, dims, weight)...))
	}
	return list
}

func changedAims(list []impl.Aim, change func([]impl.Aim)) []impl.Aim {
	twin := slices.Clone(list)
	for i := range twin {
		twin[i].Row = slices.Clone(twin[i].Row)
	}
	change(twin)
	return twin
}

// wrongAims are of so many dimensions, and have one fault each.
func wrongAims(dims int64) map[string][]impl.Aim {
	right := evenAims(4, dims)
	return map[string][]impl.Aim{
		"many":       evenAims(21, dims),
		"a short":    changedAims(right, func(list []impl.Aim) { list[0].Row = list[0].Row[1:] }),
		"a long":     changedAims(right, func(list []impl.Aim) { list[3].Row = append(list[3].Row, 0) }),
		"no row":     changedAims(right, func(list []impl.Aim) { list[1].Row = nil }),
		"a number":   changedAims(right, func(list []impl.Aim) { list[2].Row[dims-1] = 1001 }),
		"a want":     changedAims(right, func(list []impl.Aim) { list[3].Want = -100001 }),
		"huge":       changedAims(right, func(list []impl.Aim) { list[0].Row[0], list[0].Want = math.MinInt64, math.MaxInt64 }),
		"the middle": changedAims(right, func(list []impl.Aim) { list[2].Row, list[3].Want = nil, 100001 }),
	}
}

// aimsCodeByWords looks through the aims in the order of the words.
func aimsCodeByWords(list []impl.Aim, dims int64) int64 {
	if dims < 1 || dims > 10 {
		return impl.ErrForm
	}
	if len(list) > 20 {
		return impl.ErrMany
	}
	for _, aim := range list {
		if int64(len(aim.Row)) != dims {
			return impl.ErrForm
		}
		for _, number := range aim.Row {
			if number < -1000 || number > 1000 {
				return impl.ErrRange
			}
		}
		if aim.Want < -100000 || aim.Want > 100000 {
			return impl.ErrRange
		}
	}
	return impl.OK
}

// rowByWords is what an aim's row makes of the point.
func rowByWords(aim impl.Aim, point []int64) int64 {
	sum := int64(0)
	for i := range point {
		sum += aim.Row[i] * point[i]
	}
	return sum
}

func aimMeritByWords(list []impl.Aim, point []int64) impl.MeritInt {
	if code := aimsCodeByWords(list, int64(len(point))); code != impl.OK {
		return noMerit(code)
	}
	for _, number := range point {
		if number < -10000 || number > 10000 {
			return noMerit(impl.ErrRange)
		}
	}
	merit := int64(0)
	for _, aim := range list {
		sum := rowByWords(aim, point)
		merit += sum*sum - 2*sum*aim.Want + aim.Want*aim.Want
	}
	return toldMerit(merit)
}

func holdAims(t *testing.T, what string, list []impl.Aim, dims int64, want int64) {
	t.Helper()
	ask := func(a meritArgs) int64 { return impl.AimsFault(a.aims, dims) }
	holdCall(t, fmt.Sprint(what, ", AimsFault of ", dims), meritArgs{aims: list}, ask, want)
	if told := aimsCodeByWords(list, dims); told != want {
		t.Errorf("%s: the words tell %d of %s of %d, not %d", what, told, brief(list), dims, want)
	}
}

func holdMeritAt(t *testing.T, what string, list []impl.Aim, point []int64, want impl.MeritInt) {
	t.Helper()
	ask := func(a meritArgs) impl.MeritInt { return impl.MeritAt(a.aims, a.point) }
	holdCall(t, what+", MeritAt", meritArgs{aims: list, point: point}, ask, want)
	if told := aimMeritByWords(list, point); told != want {
		t.Errorf("%s: the words tell %v of %s at %v, not %v", what, told, brief(list), point, want)
	}
}

func TestAimsOfDims(t *testing.T) {
	for dims := int64(1); dims <= 10; dims++ {
		holdAims(t, "nil", nil, dims, impl.OK)
		holdAims(t, "none", []impl.Aim{}, dims, impl.OK)
		for _, count := range []int{1, 2, 19, 20} {
			holdAims(t, "right", evenAims(count, dims), dims, impl.OK)
		}
		for _, count := range []int{21, 22, 40, 277} {
			holdAims(t, "too many", evenAims(count, dims), dims, impl.ErrMany)
		}
	}
	for _, dims := range append(outsideOf(1, 10), -10, 100) {
		for _, list := range [][]impl.Aim{nil, {}, {aimOf(3)}, evenAims(20, 1), evenAims(2, 10), evenAims(2, 11), evenAims(21, 1), evenAims(21, 11), {aimOf(100001, 1001)}} {
			holdAims(t, "wrong dims", list, dims, impl.ErrForm)
		}
	}
}

func TestAimsOfRows(t *testing.T) {
	for _, dims := range []int64{1, 2, 5, 9, 10} {
		for _, length := range []int64{0, 1, dims - 1, dims + 1, dims + 2, 10, 11, 266} {
			if length == dims {
				continue
			}
			for _, place := range []int{0, 1, 19} {
				list := evenAims(20, dims)
				list[place].Row = pointOf(length, 1)
				holdAims(t, "another length", list, dims, impl.ErrForm)
			}
			holdAims(t, "another length alone", []impl.Aim{aimOf(0, pointOf(length, 1)...)}, dims, impl.ErrForm)
		}
		holdAims(t, "no row", []impl.Aim{{}}, dims, impl.ErrForm)
	}
}

func TestAimsOfNumbers(t *testing.T) {
	for _, dims := range []int64{1, 2, 10} {
		for _, place := range []int{0, 1, 19} {
			for at := range dims {
				list := evenAims(20, dims)
				for _, number := range insideOf(-1000, 1000) {
					list[place].Row[at] = number
					holdAims(t, "a number", list, dims, impl.OK)
				}
				for _, number := range outsideOf(-1000, 1000) {
					list[place].Row[at] = number
					holdAims(t, "a number", list, dims, impl.ErrRange)
				}
			}
			list := evenAims(20, dims)
			for _, want := range insideOf(-100000, 100000) {
				list[place].Want = want
				holdAims(t, "a want", list, dims, impl.OK)
			}
			for _, want := range outsideOf(-100000, 100000) {
				list[place].Want = want
				holdAims(t, "a want", list, dims, impl.ErrRange)
			}
		}
	}
}

// TestAimsFaultsInTheirOrder: the dims, then how many aims, then one aim after the other.
func TestAimsFaultsInTheirOrder(t *testing.T) {
	short, far, wide := aimOf(0, 1), aimOf(0, 1, 1001), aimOf(100001, 1, 2)
	both, right := aimOf(100001, 1001), aimOf(0, 1, 2)
	holdAims(t, "short and beyond", []impl.Aim{both}, 2, impl.ErrForm)
	holdAims(t, "short and beyond, behind a right one", []impl.Aim{right, both}, 2, impl.ErrForm)
	for _, beyond := range []impl.Aim{far, wide} {
		holdAims(t, "short, then beyond", []impl.Aim{short, beyond}, 2, impl.ErrForm)
		holdAims(t, "beyond, then short", []impl.Aim{beyond, short}, 2, impl.ErrRange)
		holdAims(t, "right, beyond, right, short", []impl.Aim{right, beyond, right, short}, 2, impl.ErrRange)
		holdAims(t, "right, short, right, beyond", []impl.Aim{right, short, right, beyond}, 2, impl.ErrForm)
	}
	for _, wrong := range []impl.Aim{short, far, wide, both} {
		for _, place := range []int{0, 20} {
			list := slices.Repeat([]impl.Aim{right}, 21)
			list[place] = wrong
			holdAims(t, "too many, one wrong", list, 2, impl.ErrMany)
			holdAims(t, "too many, one wrong, wrong dims", list, 0, impl.ErrForm)
			holdAims(t, "too many, one wrong, wrong dims", list, 11, impl.ErrForm)
		}
	}
	for dims := int64(1); dims <= 10; dims++ {
		for what, list := range wrongAims(dims) {
			holdAims(t, what, list, dims, aimsCodeByWords(list, dims))
		}
	}
}

func TestAimMeritTold(t *testing.T) {
	holdMeritAt(t, "met", []impl.Aim{aimOf(5, 1, 0), aimOf(-6, 0, 2)}, []int64{5, -3}, toldMerit(0))
	holdMeritAt(t, "at 0", []impl.Aim{aimOf(5, 1, 0), aimOf(-6, 0, 2)}, []int64{0, 0}, toldMerit(61))
	holdMeritAt(t, "one", []impl.Aim{aimOf(7, 3)}, []int64{4}, toldMerit(25))
	holdMeritAt(t, "below 0", []impl.Aim{aimOf(7, 3)}, []int64{-4}, toldMerit(361))
	holdMeritAt(t, "both below 0", []impl.Aim{aimOf(-7, 3)}, []int64{-4}, toldMerit(25))
	holdMeritAt(t, "one up, one down", []impl.Aim{aimOf(0, 1), aimOf(0, -1), aimOf(1, 0)}, []int64{3}, toldMerit(19))
	holdMeritAt(t, "mixed", []impl.Aim{aimOf(10, 1, -2, 3), aimOf(-1, 0, 5, -1)}, []int64{4, 2, -1}, toldMerit(313))
	for dims := int64(1); dims <= 10; dims++ {
		holdMeritAt(t, "nil", nil, pointOf(dims, 9), toldMerit(0))
		holdMeritAt(t, "none", []impl.Aim{}, pointOf(dims, -10000), toldMerit(0))
		holdMeritAt(t, "a row of 0", []impl.Aim{aimOf(-12, pointOf(dims, 0)...)}, pointOf(dims, 10000), toldMerit(144))
	}
	for _, signs := range [][3]int64{{1, 1, -1}, {1, -1, 1}, {-1, 1, 1}, {-1, -1, -1}} {
		list := slices.Repeat([]impl.Aim{aimOf(100000*signs[2], pointOf(10, 1000*signs[0])...)}, 20)
		holdMeritAt(t, "the greatest", list, pointOf(10, 10000*signs[1]), toldMerit(200400200000000000))
	}
}

func TestAimMeritAtTheBounds(t *testing.T) {
	for _, dims := range []int64{1, 2, 10} {
		list := evenAims(5, dims)
		for at := range dims {
			point := pointOf(dims, 3)
			for _, number := range insideOf(-10000, 10000) {
				point[at] = number
				want := aimMeritByWords(list, point)
				if want.Code != impl.OK {
					t.Errorf("code %d at %v", want.Code, point)
				}
				holdMeritAt(t, "a number", list, point, want)
				holdMeritAt(t, "a number without aims", nil, point, toldMerit(0))
			}
			for _, number := range outsideOf(-10000, 10000) {
				point[at] = number
				holdMeritAt(t, "a number", list, point, noMerit(impl.ErrRange))
				holdMeritAt(t, "a number without aims", nil, point, noMerit(impl.ErrRange))
			}
		}
	}
}

// TestMeritFaultsInTheirOrder: the aims' faults, of the point's length, then the point.
func TestAimMeritFaultsInTheirOrder(t *testing.T) {
	for _, list := range [][]impl.Aim{nil, {aimOf(3)}, evenAims(2, 1), evenAims(2, 10), evenAims(2, 11), evenAims(21, 11)} {
		holdMeritAt(t, "no number", list, nil, noMerit(impl.ErrForm))
		holdMeritAt(t, "an empty point", list, []int64{}, noMerit(impl.ErrForm))
		for _, number := range []int64{0, 10001} {
			holdMeritAt(t, "eleven numbers", list, pointOf(11, number), noMerit(impl.ErrForm))
			holdMeritAt(t, "twelve numbers", list, pointOf(12, number), noMerit(impl.ErrForm))
			holdMeritAt(t, "many numbers", list, pointOf(266, number), noMerit(impl.ErrForm))
		}
	}
	for _, dims := range []int64{1, 2, 10} {
		for what, list := range wrongAims(dims) {
			for _, number := range []int64{0, 10000, 10001, math.MinInt64} {
				holdMeritAt(t, what, list, pointOf(dims, number), noMerit(aimsCodeByWords(list, dims)))
			}
		}
	}
	holdMeritAt(t, "a number too few", evenAims(3, 3), []int64{1, 2}, noMerit(impl.ErrForm))
	holdMeritAt(t, "a number too many", evenAims(3, 3), []int64{1, 2, 3, 4}, noMerit(impl.ErrForm))
	holdMeritAt(t, "a number too many, beyond", evenAims(3, 3), []int64{1, 2, 3, 10001}, noMerit(impl.ErrForm))
}

func TestAimMeritByWords(t *testing.T) {
	draw := numbers{state: 2210}
	for range 500 {
		dims := 1 + draw.below(10)
		list := drawnAims(&draw, draw.below(21), dims, []int64{3, 1000}[draw.below(2)], []int64{10, 100000}[draw.below(2)])
		point := drawnPoint(&draw, dims, []int64{5, 10000}[draw.below(2)])
		holdMeritAt(t, "drawn", list, point, aimMeritByWords(list, point))
	}
}
