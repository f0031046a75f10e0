package tests

import (
	"fmt"
	"math"
	"runtime"
	"slices"
	"sync"
	"testing"

	"loop.example/g00049/impl"
)

func noPair(code int64) impl.PairResult {
	return impl.PairResult{Code: code}
}

func toldPair(work []int64, spare []int64) impl.PairResult {
	return impl.PairResult{Work: work, Spare: spare}
}

func haveFibreInCommon(a []int64, b []int64) bool {
	for _, place := range a {
		if slices.Contains(b, place) {
			return true
		}
	}
	return false
}

// placePair is a pair of routes by their places.
type placePair struct {
	i, j int
}

// bestPairs are all pairs of routes whose Km together is least, by the first place, then by the second.
func bestPairs(n impl.Net, routes [][]int64) []placePair {
	best, pairs := int64(math.MaxInt64), []placePair{}
	for i := range routes {
		for j := i + 1; j < len(routes); j++ {
			km := kmByWords(n, routes[i]) + kmByWords(n, routes[j])
			if haveFibreInCommon(routes[i], routes[j]) || km > best {
				continue
			}
			if km < best {
				best, pairs = km, nil
			}
			pairs = append(pairs, placePair{i, j})
		}
	}
	return pairs
}

func pairByWords(n impl.Net, from int64, to int64) impl.PairResult {
	list := routesByWords(n, from, to, 200)
	if list.Code != impl.OK {
		return noPair(list.Code)
	}
	pairs := bestPairs(n, list.Routes)
	if len(pairs) == 0 {
		return noPair(impl.ErrNone)
	}
	return toldPair(list.Routes[pairs[0].i], list.Routes[pairs[0].j])
}

func holdPairOf(t *testing.T, what string, n impl.Net, from int64, to int64, want impl.PairResult) {
	t.Helper()
	ask := func(a netArgs) impl.PairResult { return impl.PairOf(a.net, from, to) }
	holdNet(t, what+", PairOf", netArgs{net: n}, ask, want)
	if told := pairByWords(n, from, to); fmt.Sprint(told) != fmt.Sprint(want) {
		t.Errorf("%s: the words tell %s from %d to %d, not %s", what, brief(told), from, to, brief(want))
	}
}

// trapNet has a shortest route from 0 to 3 that meets all others, but for the fibre 5, if that is there.
func trapNet(far ...impl.Fibre) impl.Net {
	fibres := []impl.Fibre{fibreOf(0, 1, 1), fibreOf(1, 2, 1), fibreOf(2, 3, 1), fibreOf(0, 2, 4), fibreOf(1, 3, 4)}
	return netOf(4, 6, append(fibres, far...)...)
}

// threeWaysNet has ways of the same Km from 0 to 4, by 1, 2 and 3.
func threeWaysNet() impl.Net {
	return netOf(5, 6, fibreOf(0, 3, 1), fibreOf(3, 4, 2), fibreOf(0, 1, 2), fibreOf(1, 4, 1), fibreOf(0, 2, 1), fibreOf(2, 4, 2))
}

func TestGuardConstants(t *testing.T) {
	if impl.MaxGuards != 20 {
		t.Error("MaxGuards is another one")
	}
}

func TestPairTold(t *testing.T) {
	n := squareNet()
	holdPairOf(t, "0 to 2", n, 0, 2, toldPair([]int64{0, 1}, []int64{3, 2}))
	holdPairOf(t, "2 to 0", n, 2, 0, toldPair([]int64{1, 0}, []int64{2, 3}))
	holdPairOf(t, "0 to 1", n, 0, 1, toldPair([]int64{0}, []int64{3, 4}))
	holdPairOf(t, "1 to 3", n, 1, 3, toldPair([]int64{4}, []int64{0, 3}))
	holdPairOf(t, "3 to 1", n, 3, 1, toldPair([]int64{4}, []int64{2, 1}))
	ring := netOf(3, 4, fibreOf(0, 1, 10), fibreOf(1, 2, 10), fibreOf(0, 2, 30))
	holdPairOf(t, "the longer one is one fibre", ring, 0, 2, toldPair([]int64{0, 1}, []int64{2}))
	holdPairOf(t, "the shorter one is one fibre", ring, 0, 1, toldPair([]int64{0}, []int64{2, 1}))
}

func TestPairOfWrongEnds(t *testing.T) {
	for _, n := range []impl.Net{squareNet(), netOf(4, 1), netOf(4, 1, fibreOf(0, 1, 1))} {
		for _, end := range []int64{-1, -2, 4, 5, 8, 1 << 32, math.MaxInt64, math.MinInt64, math.MinInt64 + 1} {
			holdPairOf(t, "from", n, end, 1, noPair(impl.ErrForm))
			holdPairOf(t, "to", n, 1, end, noPair(impl.ErrForm))
			holdPairOf(t, "both", n, end, end, noPair(impl.ErrForm))
		}
		for node := range int64(4) {
			holdPairOf(t, "the same two", n, node, node, noPair(impl.ErrForm))
		}
	}
	holdPairOf(t, "one node", netOf(1, 1), 0, 0, noPair(impl.ErrForm))
}

func TestPairOfWrongNets(t *testing.T) {
	for what, n := range wrongNets() {
		for _, ends := range [][2]int64{{0, 1}, {0, 2}, {1, 1}, {-1, 99}, {math.MinInt64, math.MaxInt64}} {
			holdPairOf(t, what, n, ends[0], ends[1], noPair(netCodeByWords(n)))
		}
	}
	holdPairOf(t, "nothing", impl.Net{}, 0, 0, noPair(impl.ErrForm))
}

func TestPairThatThereIsNot(t *testing.T) {
	holdPairOf(t, "no fibre", netOf(2, 1), 0, 1, noPair(impl.ErrNone))
	holdPairOf(t, "no route", netOf(4, 1, fibreOf(0, 1, 1), fibreOf(2, 3, 1)), 0, 3, noPair(impl.ErrNone))
	holdPairOf(t, "one fibre", netOf(2, 1, fibreOf(0, 1, 7)), 1, 0, noPair(impl.ErrNone))
	holdPairOf(t, "one route alone", netOf(4, 1, fibreOf(0, 1, 1), fibreOf(1, 2, 1), fibreOf(2, 3, 1)), 0, 3, noPair(impl.ErrNone))
	first := netOf(4, 1, fibreOf(0, 1, 1), fibreOf(1, 2, 1), fibreOf(2, 3, 1), fibreOf(1, 3, 5))
	holdPairOf(t, "the first fibre in common", first, 0, 3, noPair(impl.ErrNone))
	holdPairOf(t, "the last fibre in common", first, 3, 0, noPair(impl.ErrNone))
	bridge := netOf(6, 1, fibreOf(0, 1, 1), fibreOf(0, 2, 1), fibreOf(1, 2, 1), fibreOf(2, 3, 1), fibreOf(3, 4, 1), fibreOf(3, 5, 1), fibreOf(4, 5, 1))
	holdPairOf(t, "a bridge", bridge, 0, 5, noPair(impl.ErrNone))
	holdPairOf(t, "this side of it", bridge, 0, 2, toldPair([]int64{1}, []int64{0, 2}))
	holdPairOf(t, "that side of it", bridge, 5, 3, toldPair([]int64{5}, []int64{6, 4}))
	knot := netOf(5, 1, fibreOf(0, 1, 1), fibreOf(0, 2, 3), fibreOf(1, 2, 1), fibreOf(2, 3, 1), fibreOf(2, 4, 3), fibreOf(3, 4, 1))
	holdPairOf(t, "a node in common is none", knot, 0, 4, toldPair([]int64{0, 2, 3, 5}, []int64{1, 4}))
}

// TestPairOfTheSameKm: the least first route, then the least second one.
func TestPairOfTheSameKm(t *testing.T) {
	n := threeWaysNet()
	holdPairOf(t, "the least two", n, 0, 4, toldPair([]int64{0, 1}, []int64{2, 3}))
	holdPairOf(t, "the least two back", n, 4, 0, toldPair([]int64{1, 0}, []int64{3, 2}))
	// The routes are 0 4, 1 2 4, 0 5 3 and 1 2 5 3; the first and last are as long together as the two between.
	cross := netOf(5, 1, fibreOf(0, 4, 4), fibreOf(0, 1, 2), fibreOf(1, 4, 4), fibreOf(2, 3, 3), fibreOf(3, 4, 3), fibreOf(2, 4, 3))
	if pairs := bestPairs(cross, routesByWords(cross, 0, 3, 200).Routes); !slices.Equal(pairs, []placePair{{0, 3}, {1, 2}}) {
		t.Errorf("the best pairs are %v", pairs)
	}
	holdPairOf(t, "the least first one counts first", cross, 0, 3, toldPair([]int64{0, 4}, []int64{1, 2, 5, 3}))
}

func TestPairWithoutTheShortestRoute(t *testing.T) {
	n := trapNet()
	if routes := impl.RoutesOf(n, 0, 3, 1).Routes; !sameRows(routes, [][]int64{{0, 1, 2}}) {
		t.Errorf("the shortest route is %v", routes)
	}
	want := toldPair([]int64{0, 4}, []int64{3, 2})
	holdPairOf(t, "the shortest one goes with none", n, 0, 3, want)
	for _, km := range []int64{8, 9, 100, 100000} {
		holdPairOf(t, "the shortest one goes with a long one", trapNet(fibreOf(0, 3, km)), 0, 3, want)
	}
	holdPairOf(t, "as long together", trapNet(fibreOf(0, 3, 7)), 0, 3, toldPair([]int64{0, 1, 2}, []int64{5}))
	holdPairOf(t, "shorter together", trapNet(fibreOf(0, 3, 6)), 0, 3, toldPair([]int64{0, 1, 2}, []int64{5}))
}

// TestPairOfLongFibres: where the Km together is as great as may be.
func TestPairOfLongFibres(t *testing.T) {
	ring := netOf(8, 1)
	for node := range int64(7) {
		ring.Fibres = append(ring.Fibres, fibreOf(node, node+1, 100000))
	}
	ring.Fibres = append(ring.Fibres, fibreOf(0, 7, 100000))
	holdPairOf(t, "a ring", ring, 0, 4, toldPair([]int64{0, 1, 2, 3}, []int64{7, 6, 5, 4}))
	holdPairOf(t, "a ring", ring, 0, 7, toldPair([]int64{7}, []int64{0, 1, 2, 3, 4, 5, 6}))
	for from := range int64(8) {
		for to := range int64(8) {
			holdPairOf(t, "many routes", manyRoutesNet(100000), from, to, pairByWords(manyRoutesNet(100000), from, to))
		}
	}
}

// TestPairOfALateRoute: where one of the two last fibres is long, all routes by the other one come ahead of the Spare.
func TestPairOfALateRoute(t *testing.T) {
	for _, far := range []int{7, 13} {
		n := changedNet(manyRoutesNet(1), func(n *impl.Net) { n.Fibres[far].Km = 100000 })
		routes := routesByWords(n, 0, 7, 200).Routes
		if pairs := bestPairs(n, routes); pairs[0].j < 30 {
			t.Errorf("the best pairs are %v", pairs)
		}
		holdPairOf(t, "a late Spare", n, 0, 7, pairByWords(n, 0, 7))
		holdPairOf(t, "a late Spare back", n, 7, 0, pairByWords(n, 7, 0))
	}
}

// TestPairsOfAllSmallNets: all nets of four nodes, whose fibres are as long as drawn, held against all lists of places.
func TestPairsOfAllSmallNets(t *testing.T) {
	draw := numbers{state: 1900}
	whole := joinedNet(4, 1, 6)
	codes := map[int64]int{}
	for some := range 1 << 6 {
		n := netOf(4, 1)
		for i, f := range whole.Fibres {
			if some>>i&1 == 1 {
				n.Fibres = append(n.Fibres, fibreOf(f.A, f.B, 1+draw.below(4)))
			}
		}
		n.Fibres = shuffled(&draw, n.Fibres)
		for from := range int64(4) {
			for to := range int64(4) {
				want := noPair(impl.ErrForm)
				if from != to {
					want = noPair(impl.ErrNone)
					routes := firstOnes(n, allRoutes(n, from, to), 200)
					if pairs := bestPairs(n, routes); len(pairs) > 0 {
						want = toldPair(routes[pairs[0].i], routes[pairs[0].j])
					}
				}
				codes[want.Code]++
				holdPairOf(t, "small", n, from, to, want)
			}
		}
	}
	if codes[impl.OK] < 200 || codes[impl.ErrNone] < 200 {
		t.Errorf("codes told: %v", codes)
	}
}

// TestPairsByWords: nets of up to as many nodes and fibres as may be, of few lengths and of many.
func TestPairsByWords(t *testing.T) {
	draw := numbers{state: 1901}
	alike, crossed, late, none := 0, 0, 0, 0
	for _, km := range []int64{1, 2, 3, 5, 50, 100000} {
		for range 300 {
			nodes := 4 + draw.below(5)
			n := drawnNet(&draw, nodes, 1, 5+int(draw.below(10)), km)
			from := draw.below(nodes)
			to := (from + 1 + draw.below(nodes-1)) % nodes
			pairs := bestPairs(n, routesByWords(n, from, to, 200).Routes)
			switch {
			case len(pairs) == 0:
				none++
			case len(pairs) > 1:
				alike++
			}
			if len(pairs) > 0 && pairs[0].i > 0 {
				late++
			}
			if slices.ContainsFunc(pairs, func(p placePair) bool { return p.j < pairs[0].j }) {
				crossed++
			}
			holdPairOf(t, "drawn", n, from, to, pairByWords(n, from, to))
		}
	}
	if alike < 100 || crossed < 10 || late < 10 || none < 100 {
		t.Errorf("%d of several that are as good, %d crossed, %d without the shortest route, %d of none", alike, crossed, late, none)
	}
}

// TestPairsHaveNoFault: two routes, the first ahead of the second, without a fibre in common.
func TestPairsHaveNoFault(t *testing.T) {
	draw := numbers{state: 1902}
	for range 60 {
		n := drawnNet(&draw, 8, 1, 14, 9)
		from := draw.below(8)
		to := (from + 1 + draw.below(7)) % 8
		pair := impl.PairOf(n, from, to)
		if pair.Code != impl.OK {
			continue
		}
		if impl.RouteFault(n, from, to, pair.Work) != impl.OK || impl.RouteFault(n, from, to, pair.Spare) != impl.OK {
			t.Errorf("no routes: %v of %v", pair, n)
		}
		if !isRouteAhead(n, pair.Work, pair.Spare) || haveFibreInCommon(pair.Work, pair.Spare) {
			t.Errorf("no pair: %v of %v", pair, n)
		}
	}
}

// TestPairEachTime: of many that are as good, however many workers there may be at once, and whoever else asks.
func TestPairEachTime(t *testing.T) {
	nets := []impl.Net{manyRoutesNet(1), joinedNet(8, 1, 14), joinedNet(6, 1, 14), threeWaysNet()}
	defer runtime.GOMAXPROCS(runtime.GOMAXPROCS(0))
	for _, at := range []int{1, 2, 3, 16} {
		runtime.GOMAXPROCS(at)
		for _, n := range nets {
			want := fmt.Sprint(pairByWords(n, 0, n.Nodes-1))
			var askers sync.WaitGroup
			for range 8 {
				askers.Go(func() {
					for range 25 {
						if got := fmt.Sprint(impl.PairOf(n, 0, n.Nodes-1)); got != want {
							t.Errorf("PairOf of %v: %s, want %s", n, got, want)
						}
					}
				})
			}
			askers.Wait()
		}
	}
}
