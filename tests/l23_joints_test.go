package tests

import (
	"fmt"
	"math"
	"slices"
	"testing"

	"loop.example/g00049/impl"
)

// sameJointsByWords looks at each pair of places.
func sameJointsByWords(a []int64, b []int64) bool {
	if len(a) != len(b) || len(a) > 1000 {
		return false
	}
	for i := range a {
		for j := range a {
			if (a[i] == a[j]) != (b[i] == b[j]) {
				return false
			}
		}
	}
	return true
}

// holdJoints asks both ways round.
func holdJoints(t *testing.T, what string, a []int64, b []int64, want bool) {
	t.Helper()
	ask := func(a layoutArgs) bool { return impl.SameJoints(a.a, a.b) }
	holdCall(t, what+", SameJoints", layoutArgs{a: a, b: b}, ask, want)
	holdCall(t, what+", SameJoints the other way round", layoutArgs{a: b, b: a}, ask, want)
	if told := sameJointsByWords(a, b); told != want {
		t.Errorf("%s: the words tell %v of %s and %s, not %v", what, told, brief(a), brief(b), want)
	}
}

func TestSameJointsTold(t *testing.T) {
	holdJoints(t, "nil", nil, nil, true)
	holdJoints(t, "none", nil, []int64{}, true)
	holdJoints(t, "none and one", nil, []int64{0}, false)
	holdJoints(t, "one", []int64{0}, []int64{math.MaxInt64}, true)
	holdJoints(t, "unlike lengths", []int64{1, 1}, []int64{1, 1, 1}, false)
	holdJoints(t, "one more of its own", []int64{1, 2}, []int64{1, 2, 3}, false)
	holdJoints(t, "other numbers", []int64{7, 7, -3, 7, -3}, []int64{0, 0, 1, 0, 1}, true)
	holdJoints(t, "numbers changed about", []int64{1, 0, 2}, []int64{0, 1, 2}, true)
	holdJoints(t, "numbers of the other one", []int64{0, 1, 2, 0}, []int64{1, 2, 0, 1}, true)
	holdJoints(t, "a pair alike in one alone", []int64{0, 1, 0}, []int64{0, 1, 2}, false)
	holdJoints(t, "a pair at the ends", []int64{5, 1, 2, 3, 5}, []int64{5, 1, 2, 3, 4}, false)
	holdJoints(t, "a pair at the beginning", []int64{5, 5, 6}, []int64{5, 7, 6}, false)
	holdJoints(t, "joined with another place", []int64{0, 1, 0}, []int64{0, 1, 1}, false)
	holdJoints(t, "as many numbers of each", []int64{0, 0, 1, 1}, []int64{0, 1, 0, 1}, false)
	holdJoints(t, "the least and the greatest", []int64{math.MinInt64, math.MaxInt64, math.MinInt64, 0}, []int64{math.MaxInt64, math.MinInt64, math.MaxInt64, -1}, true)
	holdJoints(t, "alike but for the upper half", []int64{0, 1 << 32}, []int64{0, 0}, false)
}

func TestSameJointsOfMany(t *testing.T) {
	counted, same := []int64{}, make([]int64, 1001)
	for i := range int64(1001) {
		counted = append(counted, 3000-i)
	}
	most, negative := counted[:1000], []int64{}
	for _, number := range most {
		negative = append(negative, -number)
	}
	holdJoints(t, "1000, each its own", most, negative, true)
	holdJoints(t, "1000, all one", same[:1000], slices.Repeat([]int64{9}, 1000), true)
	holdJoints(t, "1000 of both kinds", most, same[:1000], false)
	holdJoints(t, "1001", counted, counted, false)
	holdJoints(t, "1001, all one", same, same, false)
	holdJoints(t, "1000 and 1001", same[:1000], same, false)
	long := make([]int64, 100000)
	holdJoints(t, "100000", long, long, false)
	last := slices.Clone(most)
	last[999] = last[0]
	holdJoints(t, "the last one alike", last, most, false)
}

func TestSameJointsDrawn(t *testing.T) {
	draw := &numbers{state: 247}
	for range 4000 {
		a, b, kinds := []int64{}, []int64{}, 1+draw.below(4)
		names := []int64{draw.next(), draw.next(), draw.next(), draw.below(4)}
		for range draw.below(7) {
			number := draw.below(kinds)
			a, b = append(a, number), append(b, names[number])
		}
		if len(b) > 0 && draw.below(2) == 0 {
			b[draw.below(int64(len(b)))] = names[draw.below(4)]
		}
		if draw.below(9) == 0 {
			b = append(b, draw.below(4))
		}
		holdJoints(t, "drawn", a, b, sameJointsByWords(a, b))
	}
}

// TestJointsOfNets holds that the order of the rectangles changes the nets' numbers alone.
func TestJointsOfNets(t *testing.T) {
	draw := &numbers{state: 248}
	for _, list := range drawnLayouts(249, 100) {
		order := []int{}
		for i := range list {
			order = slices.Insert(order, int(draw.below(int64(i+1))), i)
		}
		mixed, wants := []impl.Rect{}, []int64{}
		nets := impl.NetsOf(list).List
		for _, at := range order {
			mixed, wants = append(mixed, list[at]), append(wants, nets[at])
		}
		holdJoints(t, fmt.Sprint("in the order ", order), impl.NetsOf(mixed).List, wants, true)
	}
}
