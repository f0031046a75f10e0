package tests

import (
	"cmp"
	"fmt"
	"math"
	"slices"
	"testing"

	"loop.example/g00049/impl"
)

// startsByWords are drawn on from where the one ahead ended.
func startsByWords(dims int64, seed int64, tries int64) [][]int64 {
	starts := [][]int64{}
	for range tries {
		coins := coinsByWords(seed, dims, 201)
		for i := range coins.List {
			coins.List[i] -= 100
		}
		starts, seed = append(starts, coins.List), coins.Next
	}
	return starts
}

// triesByWords are the descents of all starts.
func triesByWords(list []impl.Aim, dims int64, seed int64, tries int64, step int64) []impl.PathResult {
	paths := []impl.PathResult{}
	for _, start := range startsByWords(dims, seed, tries) {
		paths = append(paths, pathByWords(list, start, step, 200))
	}
	return paths
}

func searchByWords(list []impl.Aim, dims int64, seed int64, tries int64, step int64) impl.PathResult {
	if code := aimsCodeByWords(list, dims); code != impl.OK {
		return noPath(code)
	}
	if !isInside(seed, 0, 2147483646) || !isInside(tries, 1, 20) {
		return noPath(impl.ErrForm)
	}
	if !isInside(step, 1, 1000) {
		return noPath(impl.ErrRange)
	}
	// Of several that are least MinFunc takes the first.
	return slices.MinFunc(triesByWords(list, dims, seed, tries, step), func(a impl.PathResult, b impl.PathResult) int {
		return cmp.Compare(lastMerit(a), lastMerit(b))
	})
}

func holdSearch(t *testing.T, what string, list []impl.Aim, dims int64, seed int64, tries int64, step int64, want impl.PathResult) {
	t.Helper()
	ask := func(a meritArgs) impl.PathResult { return impl.SearchMerit(a.aims, dims, seed, tries, step) }
	holdCall(t, fmt.Sprint(what, ", SearchMerit of ", dims, ", ", seed, ", ", tries, ", ", step), meritArgs{aims: list}, ask, want)
	if told := searchByWords(list, dims, seed, tries, step); fmt.Sprint(told) != fmt.Sprint(want) {
		t.Errorf("%s: the words tell %s of %s, not %s", what, brief(told), brief(list), brief(want))
	}
}

func wrongTries(most int64) []int64 {
	return append(outsideOf(1, most), -most)
}

func TestSearchTold(t *testing.T) {
	// From 0 on the coins are 11 and 530992, of which modulo 201 11 and 151 are left.
	holdSearch(t, "no aim", nil, 2, 0, 1, 1, toldPath([]int64{0}, []int64{-89, 51}))
	holdSearch(t, "no aim, one dimension", nil, 1, 0, 1, 1000, toldPath([]int64{0}, []int64{-89}))
	holdSearch(t, "at the start", []impl.Aim{aimOf(-89, 1, 0), aimOf(51, 0, 1)}, 2, 0, 1, 1000, toldPath([]int64{0}, []int64{-89, 51}))
	holdSearch(t, "near the start", []impl.Aim{aimOf(-85, 1, 0), aimOf(50, 0, 1)}, 2, 0, 1, 4, toldPath([]int64{17, 1, 0}, []int64{-89, 51}, []int64{-85, 51}, []int64{-85, 50}))
	// Of one dimension the starts are -89, 51 and 33, and from none of them 200 rounds lead to 400.
	far := []impl.Aim{aimOf(400, 1)}
	holdSearch(t, "the first start", far, 1, 0, 1, 1, climbTo(400, -89))
	holdSearch(t, "the second start", far, 1, 0, 2, 1, climbTo(400, 51))
	holdSearch(t, "the third start is worse", far, 1, 0, 3, 1, climbTo(400, 51))
}

// climbTo goes up by 1 in each of 200 rounds.
func climbTo(want int64, start int64) impl.PathResult {
	path := toldPath(nil)
	for place := start; place <= start+200; place++ {
		path.Points, path.Merits = append(path.Points, []int64{place}), append(path.Merits, (want-place)*(want-place))
	}
	return path
}

// TestSearchOfSeveralStarts: with these aims a way by single steps ends early, at a place that hangs on its start.
func TestSearchOfSeveralStarts(t *testing.T) {
	aims := []impl.Aim{aimOf(0, 7, -7), aimOf(60, 3, 4)}
	seen := map[int]int{}
	for seed := range int64(40) {
		paths := triesByWords(aims, 2, seed, 20, 1)
		want := searchByWords(aims, 2, seed, 20, 1)
		holdSearch(t, "twenty", aims, 2, seed, 20, 1, want)
		at := slices.IndexFunc(paths, func(path impl.PathResult) bool { return lastMerit(path) == lastMerit(want) })
		for i, path := range paths {
			if lastMerit(path) < lastMerit(want) || i == at && fmt.Sprint(path) != fmt.Sprint(want) {
				t.Errorf("seed %d: try %d, %s, is better than %s", seed, i, brief(path), brief(want))
			}
		}
		seen[at]++
	}
	if len(seen) < 5 || seen[0] == 40 {
		t.Error("the best tries:", seen)
	}
}

// TestSearchOfTies: of tries that end alike the first one is told.
func TestSearchOfTies(t *testing.T) {
	for seed := range int64(20) {
		for _, dims := range []int64{1, 2, 10} {
			for _, tries := range []int64{1, 2, 20} {
				first := startsByWords(dims, seed, 1)[0]
				holdSearch(t, "no aim", nil, dims, seed, tries, 3, toldPath([]int64{0}, first))
				holdSearch(t, "rows of 0", []impl.Aim{aimOf(-3, pointOf(dims, 0)...)}, dims, seed, tries, 3, toldPath([]int64{9}, first))
			}
		}
		met := []impl.Aim{aimOf(0, 1, 1)} // each try meets it, each at a point of its own
		holdSearch(t, "met by all", met, 2, seed, 20, 64, pathByWords(met, startsByWords(2, seed, 1)[0], 64, 200))
	}
}

func TestSearchMoreTriesAreNoWorse(t *testing.T) {
	draw := numbers{state: 2230}
	better := 0
	for range 25 {
		dims := 1 + draw.below(5)
		list := drawnAims(&draw, 1+draw.below(8), dims, 30, 3000)
		seed, step := draw.below(impl.CoinPrime), 1+draw.below(4)
		ahead := int64(math.MaxInt64)
		for tries := int64(1); tries <= 20; tries++ {
			merit := lastMerit(impl.SearchMerit(list, dims, seed, tries, step))
			if merit > ahead {
				t.Errorf("%s, seed %d, step %d: %d in %d tries, %d in one less", brief(list), seed, step, merit, tries, ahead)
			}
			if merit < ahead && tries > 1 {
				better++
			}
			ahead = merit
		}
	}
	if better < 20 {
		t.Error(better)
	}
}

func TestSearchFaults(t *testing.T) {
	aims := []impl.Aim{aimOf(5, 1, 0), aimOf(-6, 0, 2)}
	for _, seed := range insideOf(0, impl.CoinPrime-1) {
		for _, tries := range []int64{1, 2, 19, 20} {
			holdSearch(t, "right", aims, 2, seed, tries, 4, searchByWords(aims, 2, seed, tries, 4))
		}
		for _, step := range insideOf(1, 1000) {
			holdSearch(t, "right", aims, 2, seed, 3, step, searchByWords(aims, 2, seed, 3, step))
		}
		for _, step := range wrongStrides() {
			holdSearch(t, "a wrong step", aims, 2, seed, 3, step, noPath(impl.ErrRange))
			holdSearch(t, "a wrong step without aims", nil, 2, seed, 1, step, noPath(impl.ErrRange))
		}
	}
	for _, step := range []int64{1, 1000, 0, 1001} {
		for _, seed := range wrongSeeds() {
			holdSearch(t, "a wrong seed", aims, 2, seed, 1, step, noPath(impl.ErrForm))
			holdSearch(t, "a wrong seed and tries", aims, 2, seed, 0, step, noPath(impl.ErrForm))
			holdSearch(t, "a wrong seed without aims", nil, 2, seed, 20, step, noPath(impl.ErrForm))
		}
		for _, tries := range wrongTries(20) {
			holdSearch(t, "wrong tries", aims, 2, 7, tries, step, noPath(impl.ErrForm))
			holdSearch(t, "wrong tries without aims", nil, 2, 7, tries, step, noPath(impl.ErrForm))
		}
	}
}

// TestSearchFaultsInTheirOrder: the aims, then the seed and the tries, then the step.
func TestSearchFaultsInTheirOrder(t *testing.T) {
	for _, args := range [][3]int64{{7, 1, 1}, {-1, 1, 1}, {7, 0, 1}, {7, 21, 1}, {7, 1, 0}, {impl.CoinPrime, 21, 1001}} {
		seed, tries, step := args[0], args[1], args[2]
		for _, dims := range []int64{1, 2, 10} {
			for what, list := range wrongAims(dims) {
				holdSearch(t, what, list, dims, seed, tries, step, noPath(aimsCodeByWords(list, dims)))
			}
		}
		for _, dims := range outsideOf(1, 10) {
			for _, list := range [][]impl.Aim{nil, evenAims(3, 1), evenAims(21, 11)} {
				holdSearch(t, "wrong dims", list, dims, seed, tries, step, noPath(impl.ErrForm))
			}
		}
	}
}

func TestSearchByWords(t *testing.T) {
	draw := numbers{state: 2231}
	places := map[bool]int{}
	for range 60 {
		dims := 1 + draw.below(10)
		list := drawnAims(&draw, draw.below(13), dims, []int64{3, 1000}[draw.below(2)], []int64{100, 100000}[draw.below(2)])
		seed, tries, step := draw.below(impl.CoinPrime), 1+draw.below(20), 1+draw.below([]int64{5, 1000}[draw.below(2)])
		want := searchByWords(list, dims, seed, tries, step)
		holdSearch(t, "drawn", list, dims, seed, tries, step, want)
		holdProof(t, "drawn", list, want, true)
		places[fmt.Sprint(want.Points[0]) == fmt.Sprint(startsByWords(dims, seed, 1)[0])]++
	}
	if places[true] < 5 || places[false] < 20 {
		t.Error(places)
	}
}
