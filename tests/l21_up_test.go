package tests

import (
	"fmt"
	"math"
	"slices"
	"testing"

	"loop.example/g00049/impl"
)

// noBudgets are none from 1 to MaxHops.
func noBudgets() []int64 {
	return []int64{0, -1, -20000, 20001, 20002, 1 << 32, 1<<32 + 1, -1 << 32, math.MaxInt64 - 1, math.MaxInt64, math.MinInt64, math.MinInt64 + 1}
}

func TestSignalOfBudgets(t *testing.T) {
	n, need := squareNet(), needOf(1, 0, 2, 1, 1000)
	want := toldSignal(hopsOf("g00 s10 g11"), litOf(1, 0, 2, 0, 1, 0, 1))
	for _, budget := range []int64{3, 4, 100, 19999, 20000} {
		holdSignal(t, "enough", n, nil, need, budget, want)
	}
	holdSignal(t, "one less", n, nil, need, 2, vainSignal(impl.ErrMany, hopsOf("g00 s10")))
	holdSignal(t, "one", n, nil, need, 1, vainSignal(impl.ErrMany, hopsOf("g00")))
	holdSignal(t, "one is enough", n, nil, needOf(1, 0, 1, 1, 1000), 1, toldSignal(hopsOf("g00"), litOf(1, 0, 1, 0, 1, 0)))
	holdSignal(t, "one is enough for none", lineNet(4), nil, needOf(1, 0, 1, 1, 9), 1, vainSignal(impl.ErrNone, hopsOf("r00")))
	holdSignal(t, "one, without a neighbour", netOf(2, 4), nil, needOf(1, 0, 1, 1, 9), 1, vainSignal(impl.ErrNone, nil))
	for _, budget := range noBudgets() {
		holdSignal(t, "no budget", n, nil, need, budget, noSignal(impl.ErrRange))
		holdSignal(t, "no budget", n, threeLits(), needOf(1, 0, 1, 6, 1), budget, noSignal(impl.ErrRange))
		holdSignal(t, "no budget, no fibre", netOf(2, 4), nil, needOf(1, 0, 1, 1, 9), budget, noSignal(impl.ErrRange))
	}
	dead := lineOf(5, 1)
	dead.Fibres = append(dead.Fibres, fibreOf(5, 6, 1))
	dead.Nodes = 7
	holdSignal(t, "the way back is a hop", dead, nil, needOf(1, 3, 5, 1, 9), 5, vainSignal(impl.ErrMany, hopsOf("g32 g21 g10 s00 b00")))
	holdSignal(t, "the way back needs one", dead, nil, needOf(1, 3, 5, 1, 9), 4, vainSignal(impl.ErrMany, hopsOf("g32 g21 g10 s00")))
}

// faultNeeds have a fault each on the square net with three lights, and the last ones several.
func faultNeeds() []impl.Need {
	needs := []impl.Need{{}, needOf(0, 2, 2, 0, 0), needOf(3, 2, 3, 7, 1), needOf(1, 2, 2, 0, 1), needOf(1, 9, 3, 1, 0), needOf(1, 2, 3, 0, 0)}
	for _, id := range []int64{0, -1, math.MinInt64, 1000000001, 1<<32 + 1, math.MaxInt64, 3, 5, 900} {
		needs = append(needs, needOf(id, 0, 2, 1, 1000))
	}
	for _, end := range []int64{-1, 4, 5, 8, 1 << 32, math.MaxInt64, math.MinInt64} {
		needs = append(needs, needOf(1, end, 1, 1, 1000), needOf(1, 1, end, 1, 1000), needOf(1, end, end, 1, 1000), needOf(1, end, 1, 0, 0))
	}
	for node := range int64(4) {
		needs = append(needs, needOf(1, node, node, 1, 1000), needOf(1, node, node, 7, 0))
	}
	for _, width := range []int64{0, -1, 7, 8, 64, 65, 1 << 32, 1<<32 + 1, math.MaxInt64, math.MinInt64} {
		needs = append(needs, needOf(1, 2, 3, width, 1000), needOf(1, 2, 3, width, 1))
	}
	for _, reach := range []int64{0, -1, -1000, math.MinInt64, math.MinInt64 + 1} {
		needs = append(needs, needOf(1, 2, 3, 1, reach), needOf(1, 0, 1, 6, reach))
	}
	return needs
}

// TestSignalOfWrongNeeds: what LightUp says of a need ahead of its routes, whatever the budget.
func TestSignalOfWrongNeeds(t *testing.T) {
	n, lits := squareNet(), threeLits()
	codes := map[int64]int{}
	for _, need := range faultNeeds() {
		want := noSignal(needCodeByWords(n, lits, need))
		codes[want.Code]++
		if up := impl.LightUp(n, lits, need); up.Code != want.Code || up.Code == impl.OK {
			t.Errorf("LightUp says %d of %v", up.Code, need)
		}
		for _, budget := range []int64{1, 20000, 0, 20001, math.MinInt64, math.MaxInt64} {
			holdSignal(t, "a wrong need", n, lits, need, budget, want)
		}
	}
	if codes[impl.ErrForm] < 30 || codes[impl.ErrRange] < 20 || len(codes) != 2 {
		t.Errorf("codes told: %v", codes)
	}
}

// TestSignalFaultsInTheirOrder: the net's faults, the lights', too many of them, then the need's, then the budget.
func TestSignalFaultsInTheirOrder(t *testing.T) {
	n := squareNet()
	needs := []impl.Need{needOf(1, 2, 3, 1, 1000), {}, needOf(3, 2, 3, 7, 1), needOf(1, 2, 2, 0, 1), needOf(1, 2, 3, 0, 1)}
	for _, need := range needs {
		for _, budget := range []int64{100, 0, 20001} {
			for what, lits := range wrongLits() {
				holdSignal(t, what, n, lits, need, budget, noSignal(litsCodeByWords(n, lits)))
			}
			for what, wrong := range wrongNets() {
				for _, lits := range [][]impl.Lit{nil, threeLits(), thinLits(41)} {
					holdSignal(t, what, wrong, lits, need, budget, noSignal(netCodeByWords(wrong)))
				}
			}
			line := lineNet(64)
			holdSignal(t, "forty", line, thinLits(40), need, budget, noSignal(impl.ErrMany))
			holdSignal(t, "more than forty", line, thinLits(41), need, budget, noSignal(impl.ErrMany))
			wrong := changedLits(thinLits(40), func(l []impl.Lit) { l[39].First = 38 })
			holdSignal(t, "forty, one wrong", line, wrong, need, budget, noSignal(impl.ErrTaken))
		}
	}
	last := toldSignal(hopsOf("g10"), slices.Insert(thinLits(39), 1, litOf(4, 1, 0, 39, 25, 0))...)
	holdSignal(t, "the fortieth", lineNet(64), thinLits(39), needOf(4, 1, 0, 25, 10), 1, last)
	holdSignal(t, "no room for the fortieth", lineNet(64), thinLits(39), needOf(4, 1, 0, 26, 10), 1, vainSignal(impl.ErrNone, hopsOf("u10")))
}

// longestNet needs more hops till none is found than any other net that a long search has met.
func longestNet() impl.Net {
	n := netOf(8, 1)
	for _, ends := range [][2]int64{{1, 3}, {2, 5}, {3, 6}, {5, 6}, {0, 3}, {1, 2}, {2, 4}, {2, 6}, {2, 3}, {0, 5}, {0, 4}, {4, 6}, {1, 4}, {1, 5}} {
		n.Fibres = append(n.Fibres, fibreOf(ends[0], ends[1], 1))
	}
	return n
}

func TestSignalOfTheMostHops(t *testing.T) {
	n, need := longestNet(), needOf(1, 0, 7, 1, 1000)
	want := signalByWords(n, nil, need, 20000)
	if want.Code != impl.ErrNone || want.Used != 1488 {
		t.Errorf("code %d behind %d hops", want.Code, want.Used)
	}
	holdBudgets(t, "the most", n, nil, need, want)
}

// leastByPlaces is, of the routes within reach that have room, the one whose places come first; nil, if there is none.
func leastByPlaces(n impl.Net, lits []impl.Lit, need impl.Need) []int64 {
	var least []int64
	for _, path := range routesByNodes(n, need.From, need.To) {
		if kmByWords(n, path) > need.Reach || fitByFree(n, lits, path, need.Width) < 0 {
			continue
		}
		if least == nil || slices.Compare(path, least) < 0 {
			least = path
		}
	}
	return least
}

// holdFound: a way that was found is a route within reach with room, on the least slot; where none was found there is none.
func holdFound(t *testing.T, n impl.Net, lits []impl.Lit, need impl.Need, got impl.SignalResult) {
	t.Helper()
	least := leastByPlaces(n, lits, need)
	if got.Code == impl.ErrNone {
		up := impl.LightUp(n, lits, need)
		if least != nil || up.Code != impl.ErrNone && up.Code != impl.ErrTaken {
			t.Errorf("%s, %s, %v: none was found, but there is %v", brief(n), brief(lits), need, least)
		}
		return
	}
	lit, _ := litById(got.Lits, need.Id)
	first := fitByFree(n, lits, least, need.Width)
	want := litOf(need.Id, need.From, need.To, first, need.Width, least...)
	if fmt.Sprint(lit) != fmt.Sprint(want) || impl.LitsFault(n, got.Lits) != impl.OK || impl.RouteKm(n, lit.Path) > need.Reach {
		t.Errorf("%s, %s, %v: found %v, want %v", brief(n), brief(lits), need, lit, want)
	}
	if down := impl.LightDown(n, got.Lits, need.Id); fmt.Sprint(down) != fmt.Sprint(toldLits(lits...)) {
		t.Errorf("%s: taken down again there are %s, want %s", brief(n), brief(down), brief(lits))
	}
}

// TestSignalsByWords: drawn nets with drawn lights, each need with all budgets or some.
func TestSignalsByWords(t *testing.T) {
	draw := numbers{state: 2101}
	codes, kinds := map[int64]int{}, map[int64]int{}
	for range 60 {
		n := drawnNet(&draw, 2+draw.below(7), 2+draw.below(7), 3+int(draw.below(12)), 40)
		lits := drawnLits(&draw, n, int(draw.below(40)), 3)
		for range 6 {
			need := drawnNeed(&draw, n)
			want := signalByWords(n, lits, need, 20000)
			codes[want.Code]++
			for _, hop := range want.Hops {
				kinds[hop.Kind]++
			}
			holdBudgets(t, "drawn", n, lits, need, want)
			if want.Code == impl.OK || want.Code == impl.ErrNone {
				holdFound(t, n, lits, need, impl.SignalUp(n, lits, need, 20000))
			}
		}
	}
	if codes[impl.OK] < 80 || codes[impl.ErrNone] < 80 || codes[impl.ErrForm] < 20 || len(kinds) != 5 {
		t.Errorf("codes told: %v, kinds of hops: %v", codes, kinds)
	}
	for kind, count := range kinds {
		if count < 100 {
			t.Errorf("%d hops of kind %d", count, kind)
		}
	}
}

// TestSignalsFillANet: lights set up by messages till there is no room; then no other way of setting up finds any.
func TestSignalsFillANet(t *testing.T) {
	draw := numbers{state: 2102}
	for range 12 {
		n := drawnNet(&draw, 5, 4, 8, 10)
		lits := []impl.Lit{}
		for id := int64(1); len(lits) < 40; id++ {
			need := needOf(id, 0, 4, 1+id%2, 100)
			up := impl.SignalUp(n, lits, need, 20000)
			holdFound(t, n, lits, need, up)
			if up.Code != impl.OK && id%2 == 0 {
				break
			}
			if up.Code == impl.OK {
				lits = up.Lits
			}
		}
		if code := impl.LitsFault(n, lits); code != impl.OK {
			t.Errorf("%s: %d lights with code %d", brief(n), len(lits), code)
		}
	}
}
