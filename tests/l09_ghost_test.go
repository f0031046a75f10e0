package tests

import (
	"math"
	"slices"
	"testing"

	"loop.example/g00049/impl"
)

// walker looks for ways without any cleverness: at each face it goes on, and it turns round.
type walker struct {
	faces int64
	turns int
	ways  [][]int64
}

// walk goes on from the end of a way, upwards by 1 or by -1.
func (w *walker) walk(way []int64, up int64, turned int) {
	at := way[len(way)-1]
	if at < 0 || at >= w.faces || turned > w.turns {
		return
	}
	if at == w.faces-1 && up == 1 && turned == w.turns {
		w.ways = append(w.ways, way)
		return
	}
	w.walk(append(slices.Clone(way), at+up), up, turned)
	w.walk(append(slices.Clone(way), at-up), -up, turned+1)
}

// turningPlaces are the faces of a way at which it turns round.
func turningPlaces(way []int64) []int64 {
	places := []int64{}
	for i := 1; i+1 < len(way); i++ {
		if way[i-1] == way[i+1] {
			places = append(places, way[i])
		}
	}
	return places
}

func byTurningPlaces(a []int64, b []int64) int {
	return slices.Compare(turningPlaces(a), turningPlaces(b))
}

func walkedWays(faces int64, turns int64) [][]int64 {
	w := walker{faces: faces, turns: int(turns)}
	w.walk([]int64{0}, 1, 0)
	slices.SortFunc(w.ways, byTurningPlaces)
	return w.ways
}

// countedWays counts the ways row by row, without going them: how many there are that have turned so often, the last time at each face.
func countedWays(faces int64, turns int64) int64 {
	at := make([]int64, faces)
	at[0] = 1
	for turn := range turns {
		next := make([]int64, faces)
		for from, count := range at {
			for to := range next {
				if turn%2 == 0 && to > from || turn%2 == 1 && to < from {
					next[to] += count
				}
			}
		}
		at = next
	}
	sum := int64(0)
	for _, count := range at {
		sum += count
	}
	return sum
}

// holdOwnLists writes into each list, behind its end too, and looks whether another one has changed.
func holdOwnLists(t *testing.T, lists [][]int64) {
	t.Helper()
	order := []int{}
	for i := range lists {
		order = append(order, i)
	}
	for range 2 {
		slices.Reverse(order)
		for _, i := range order {
			for j := range lists[i][:cap(lists[i])] {
				lists[i][:cap(lists[i])][j] = int64(-1 - i)
			}
		}
		for i, list := range lists {
			if slices.ContainsFunc(list, func(n int64) bool { return n != int64(-1-i) }) {
				t.Fatalf("list %d of %d shares memory with another one", i, len(lists))
			}
		}
	}
}

func holdGhosts(t *testing.T, faces int64, turns int64, want impl.GhostResult) {
	t.Helper()
	got, again := impl.GhostPaths(faces, turns), impl.GhostPaths(faces, turns)
	for _, g := range []impl.GhostResult{got, again} {
		if g.Code != want.Code || !sameRows(g.Paths, want.Paths) {
			t.Errorf("GhostPaths(%d, %d) = %s, want %s", faces, turns, brief(g), brief(want))
		}
	}
	holdOwnLists(t, slices.Concat(got.Paths, again.Paths))
}

func noGhosts(code int64) impl.GhostResult {
	return impl.GhostResult{Code: code}
}

func TestGhostPathsTold(t *testing.T) {
	ways := func(list ...[]int64) impl.GhostResult { return impl.GhostResult{Paths: list} }
	holdGhosts(t, 1, 0, ways([]int64{0}))
	holdGhosts(t, 2, 0, ways([]int64{0, 1}))
	holdGhosts(t, 4, 0, ways([]int64{0, 1, 2, 3}))
	holdGhosts(t, 1, 2, ways())
	holdGhosts(t, 1, 8, ways())
	holdGhosts(t, 2, 2, ways([]int64{0, 1, 0, 1}))
	holdGhosts(t, 2, 4, ways([]int64{0, 1, 0, 1, 0, 1}))
	holdGhosts(t, 2, 8, ways([]int64{0, 1, 0, 1, 0, 1, 0, 1, 0, 1}))
	holdGhosts(t, 3, 2, ways([]int64{0, 1, 0, 1, 2}, []int64{0, 1, 2, 1, 0, 1, 2}, []int64{0, 1, 2, 1, 2}))
	holdGhosts(t, 3, 4, ways(
		[]int64{0, 1, 0, 1, 0, 1, 2}, []int64{0, 1, 0, 1, 2, 1, 0, 1, 2}, []int64{0, 1, 0, 1, 2, 1, 2},
		[]int64{0, 1, 2, 1, 0, 1, 0, 1, 2}, []int64{0, 1, 2, 1, 0, 1, 2, 1, 0, 1, 2}, []int64{0, 1, 2, 1, 0, 1, 2, 1, 2},
		[]int64{0, 1, 2, 1, 2, 1, 0, 1, 2}, []int64{0, 1, 2, 1, 2, 1, 2},
	))
	holdGhosts(t, 4, 2, ways(
		[]int64{0, 1, 0, 1, 2, 3}, []int64{0, 1, 2, 1, 0, 1, 2, 3}, []int64{0, 1, 2, 1, 2, 3},
		[]int64{0, 1, 2, 3, 2, 1, 0, 1, 2, 3}, []int64{0, 1, 2, 3, 2, 1, 2, 3}, []int64{0, 1, 2, 3, 2, 3},
	))
}

func TestGhostPathsFaults(t *testing.T) {
	evenMost := int64(math.MaxInt64 - 1)
	for _, faces := range []int64{0, -1, -2, math.MinInt64, impl.MaxSurfs + 1, 1000, math.MaxInt64} {
		for _, turns := range []int64{0, 1, 2, 8, 9, 10, -1, -2, evenMost, math.MinInt64} {
			holdGhosts(t, faces, turns, noGhosts(impl.ErrForm))
		}
	}
	for _, faces := range []int64{1, 2, 3, impl.MaxSurfs} {
		for _, turns := range []int64{-1, -2, -8, math.MinInt64, math.MinInt64 + 1, 1, 3, 5, 7, 9, 11, math.MaxInt64} {
			holdGhosts(t, faces, turns, noGhosts(impl.ErrForm))
		}
		// Even where there are no ways, there may not be more turns than 8.
		for _, turns := range []int64{10, 12, 1 << 32, evenMost} {
			holdGhosts(t, faces, turns, noGhosts(impl.ErrMany))
		}
	}
}

// TestGhostsAreAllAndOnce holds every number of faces and of turns, up to the first ones that are too many, against ways that were walked.
func TestGhostsAreAllAndOnce(t *testing.T) {
	most := map[int64]int64{}
	for turns := int64(0); turns <= 8; turns += 2 {
		for faces := int64(1); faces <= impl.MaxSurfs; faces++ {
			count := countedWays(faces, turns)
			if count > impl.MaxGhosts {
				holdGhosts(t, faces, turns, noGhosts(impl.ErrMany))
				continue
			}
			most[turns] = faces
			ways := walkedWays(faces, turns)
			if int64(len(ways)) != count {
				t.Fatal(faces, turns, len(ways), count)
			}
			holdGhosts(t, faces, turns, impl.GhostResult{Paths: ways})
		}
	}
	if most[0] != impl.MaxSurfs || most[2] != impl.MaxSurfs {
		t.Error(most)
	}
	// No number of ways is just MaxGhosts: these are the most below it and the first above it.
	for turns, ways := range map[int64][2]int64{4: {2530, 3641}, 6: {2353, 6405}, 8: {793, 5864}} {
		below, above := len(walkedWays(most[turns], turns)), len(walkedWays(most[turns]+1, turns))
		if int64(below) != ways[0] || int64(above) != ways[1] {
			t.Error(turns, most[turns], below, above)
		}
	}
}

// TestGhostsTurnJustSoOften asks each way for what the document says of it.
func TestGhostsTurnJustSoOften(t *testing.T) {
	for _, asked := range [][2]int64{{1, 0}, {40, 0}, {2, 2}, {40, 2}, {5, 4}, {11, 4}, {6, 6}, {3, 8}, {4, 8}} {
		faces, turns := asked[0], asked[1]
		got := impl.GhostPaths(faces, turns)
		if got.Code != impl.OK || len(got.Paths) == 0 {
			t.Fatal(asked, got.Code)
		}
		for i, way := range got.Paths {
			last := len(way) - 1
			if way[0] != 0 || way[last] != faces-1 || last > 0 && way[last-1] != faces-2 {
				t.Fatal("its ends", asked, way)
			}
			for j, face := range way {
				if face < 0 || face >= faces || j > 0 && face-way[j-1] != 1 && face-way[j-1] != -1 {
					t.Fatal("its steps", asked, way)
				}
			}
			if int64(len(turningPlaces(way))) != turns {
				t.Fatal("its turns", asked, way)
			}
			// The order leaves no way that is there twice.
			if i > 0 && byTurningPlaces(got.Paths[i-1], way) >= 0 {
				t.Fatal("its place", asked, got.Paths[i-1], way)
			}
		}
	}
}
