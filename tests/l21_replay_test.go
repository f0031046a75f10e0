package tests

import (
	"fmt"
	"math"
	"slices"
	"testing"

	"loop.example/g00049/impl"
)

func noWay(code int64) impl.WaveResult {
	return impl.WaveResult{Code: code}
}

func toldWay(fibres ...int64) impl.WaveResult {
	return impl.WaveResult{List: fibres}
}

// wayByWords are the fibres of those hops that went on and were not gone back, from the last hop to the first.
func wayByWords(hops []impl.Hop) []int64 {
	way, undone := []int64{}, 0
	for _, hop := range slices.Backward(hops) {
		switch {
		case hop.Kind == impl.HopBack:
			undone++
		case hop.Kind == impl.HopGo && undone > 0:
			undone--
		case hop.Kind == impl.HopGo:
			way = slices.Insert(way, 0, hop.Fibre)
		}
	}
	return way
}

// nodesAlong are those where a way was, the first one too.
func nodesAlong(n impl.Net, from int64, way []int64) []int64 {
	nodes := []int64{from}
	for _, place := range way {
		nodes = append(nodes, n.Fibres[place].A+n.Fibres[place].B-nodes[len(nodes)-1])
	}
	return nodes
}

// hopCodeByWords is of one hop, behind those ahead of it.
func hopCodeByWords(n impl.Net, from int64, ahead []impl.Hop, hop impl.Hop) int64 {
	way := wayByWords(ahead)
	nodes := nodesAlong(n, from, way)
	if hop.Node != nodes[len(nodes)-1] || hop.Kind < 1 || hop.Kind > 5 || hop.Fibre < 0 || hop.Fibre >= int64(len(n.Fibres)) {
		return impl.ErrForm
	}
	fibre := n.Fibres[hop.Fibre]
	if fibre.A != hop.Node && fibre.B != hop.Node {
		return impl.ErrForm
	}
	if hop.Kind == impl.HopGo && slices.Contains(nodes, fibre.A+fibre.B-hop.Node) {
		return impl.ErrForm
	}
	if hop.Kind == impl.HopBack && (len(way) == 0 || way[len(way)-1] != hop.Fibre) {
		return impl.ErrForm
	}
	return impl.OK
}

func replayByWords(n impl.Net, need impl.Need, hops []impl.Hop) impl.WaveResult {
	if code := netCodeByWords(n); code != impl.OK {
		return noWay(code)
	}
	if need.From < 0 || need.From >= n.Nodes || need.To < 0 || need.To >= n.Nodes || need.From == need.To {
		return noWay(impl.ErrForm)
	}
	for i, hop := range hops {
		if code := hopCodeByWords(n, need.From, hops[:i], hop); code != impl.OK {
			return noWay(code)
		}
	}
	return toldWay(wayByWords(hops)...)
}

func holdReplay(t *testing.T, what string, n impl.Net, need impl.Need, hops []impl.Hop, want impl.WaveResult) {
	t.Helper()
	ask := func(a netArgs) impl.WaveResult { return impl.ReplayHops(a.net, need, a.hops) }
	holdNet(t, fmt.Sprint(what, ", ReplayHops of ", need, ": ", brief(hops)), netArgs{net: n, hops: hops}, ask, want)
	if told := replayByWords(n, need, hops); fmt.Sprint(told) != fmt.Sprint(want) {
		t.Errorf("%s: the words tell %s of %v, not %s", what, brief(told), need, brief(want))
	}
}

func betweenOf(from int64, to int64) impl.Need {
	return impl.Need{From: from, To: to}
}

func TestReplayTold(t *testing.T) {
	n, need := squareNet(), betweenOf(0, 2)
	holdReplay(t, "nil", n, need, nil, toldWay())
	holdReplay(t, "no hop", n, need, []impl.Hop{}, toldWay())
	holdReplay(t, "no hop, no fibre", netOf(2, 1), betweenOf(1, 0), nil, toldWay())
	for _, one := range []struct {
		hops string
		want []int64
	}{
		{"g00", ids(0)},
		{"g03", ids(3)},
		{"g00 s10", ids(0)},
		{"g00 s10 g11", ids(0, 1)},
		{"u00 r03 s00", ids()},
		{"g00 b10", ids()},
		{"g00 b10 g00", ids(0)},
		{"g00 g14 g32", ids(0, 4, 2)},
		{"g00 g14 b34", ids(0)},
		{"g00 g14 b34 b10", ids()},
		{"g00 g14 b34 b10 g03 g34", ids(3, 4)},
		{"g00 g14 b34 g11 g22", ids(0, 1, 2)},
		{"g00 g11 g22 b32 b21 g14 g32", ids(0, 4, 2)},
		{"g00 s10 u11 g14 u32 s33 s34 b34 b10 g03 u32 s33 g34 s10 u11 s14 b14 b33", ids()},
		{"g00 s10 u11 g14 u32 s33 s34 b34 b10 g03 u32 s33 g34 s10 u11 s14", ids(3, 4)},
	} {
		holdReplay(t, one.hops, n, need, hopsOf(one.hops), toldWay(one.want...))
	}
	holdReplay(t, "from the other end", n, betweenOf(2, 0), hopsOf("s22 g21 u14 g10"), toldWay(1, 0))
}

// TestReplayGoesOn: To is a node like another one, and what is full, far or seen is not asked for.
func TestReplayGoesOn(t *testing.T) {
	n := squareNet()
	holdReplay(t, "on from To", n, betweenOf(0, 1), hopsOf("g00 g11 g22"), toldWay(0, 1, 2))
	holdReplay(t, "back from To", n, betweenOf(0, 1), hopsOf("g00 b10 g03"), toldWay(3))
	holdReplay(t, "full, far and seen of all", n, betweenOf(0, 2), hopsOf("u00 r00 s00 u03 r03 s03 g00 u10 r10 s10 u11 u14 r14 s14"), toldWay(0))
	holdReplay(t, "the rest of the need", n, needOf(-5, 0, 2, -1, 0), hopsOf("g00 g11"), toldWay(0, 1))
	holdReplay(t, "the rest of the need", n, needOf(math.MaxInt64, 0, 2, math.MaxInt64, math.MinInt64), hopsOf("g00 g11"), toldWay(0, 1))
	line := lineOf(8, 64)
	holdReplay(t, "the longest way", line, betweenOf(0, 7), hopsOf("g00 g11 g22 g33 g44 g55 g66"), toldWay(0, 1, 2, 3, 4, 5, 6))
	holdReplay(t, "the longest way back", line, betweenOf(7, 0), hopsOf("g76 g65 g54 g43 g32 g21 g10 b00 b11"), toldWay(6, 5, 4, 3, 2))
	star := joinedNet(8, 1, 14)
	holdReplay(t, "the last fibre", star, betweenOf(3, 5), hopsOf("g3d b5d g3d"), toldWay(13))
}

// TestReplayOfManyHops: there may be more than a budget allows.
func TestReplayOfManyHops(t *testing.T) {
	n, need := squareNet(), betweenOf(0, 2)
	round := hopsOf("g00 s10 u11 g14 b34 b10")
	for _, times := range []int{3333, 3334, 10000} {
		hops := slices.Repeat(round, times)
		for _, more := range []struct {
			hops string
			want impl.WaveResult
		}{{"", toldWay()}, {"g03 g32", toldWay(3, 2)}, {"b10", noWay(impl.ErrForm)}} {
			got := impl.ReplayHops(n, need, append(slices.Clone(hops), hopsOf(more.hops)...))
			if fmt.Sprint(got) != fmt.Sprint(more.want) {
				t.Errorf("%d times, then %q: %s, want %s", times, more.hops, brief(got), brief(more.want))
			}
		}
	}
	if got := impl.ReplayHops(n, need, slices.Repeat(hopsOf("u00"), impl.MaxHops+1)); fmt.Sprint(got) != fmt.Sprint(toldWay()) {
		t.Errorf("full again and again: %s", brief(got))
	}
}

func TestReplayOfWrongEnds(t *testing.T) {
	n := squareNet()
	for _, hops := range [][]impl.Hop{nil, hopsOf("g00"), hopsOf("g00 g11"), hopsOf("b00")} {
		for _, end := range noNodes(4) {
			holdReplay(t, "from", n, betweenOf(end, 2), hops, noWay(impl.ErrForm))
			holdReplay(t, "to", n, betweenOf(0, end), hops, noWay(impl.ErrForm))
			holdReplay(t, "both", n, betweenOf(end, end), hops, noWay(impl.ErrForm))
		}
		for node := range int64(4) {
			holdReplay(t, "the same", n, betweenOf(node, node), hops, noWay(impl.ErrForm))
		}
		holdReplay(t, "one node", netOf(1, 1), betweenOf(0, 0), hops, noWay(impl.ErrForm))
	}
}

func TestReplayOfWrongNets(t *testing.T) {
	for what, wrong := range wrongNets() {
		for _, need := range []impl.Need{betweenOf(0, 2), betweenOf(0, 0), betweenOf(-1, 9)} {
			for _, hops := range [][]impl.Hop{nil, hopsOf("g00 g11"), hopsOf("b00")} {
				holdReplay(t, what, wrong, need, hops, noWay(netCodeByWords(wrong)))
			}
		}
	}
}

// wrongHops are none that can be made at the node; of the fibres two that join it not.
func wrongHops(node int64, apart []int64) []impl.Hop {
	hops := []impl.Hop{{}}
	for kind := int64(1); kind <= 5; kind++ {
		for _, other := range append(noNodes(4), 0, 1, 2, 3) {
			if other != node {
				hops = append(hops, impl.Hop{Kind: kind, Node: other, Fibre: 0}, impl.Hop{Kind: kind, Node: other, Fibre: 3})
			}
		}
		for _, place := range append(noNodes(5), apart...) {
			hops = append(hops, impl.Hop{Kind: kind, Node: node, Fibre: place})
		}
	}
	for _, kind := range []int64{0, -1, 6, 7, 1 << 32, 1<<32 + 1, math.MaxInt64, math.MinInt64, math.MinInt64 + 1} {
		for place := range int64(5) {
			hops = append(hops, impl.Hop{Kind: kind, Node: node, Fibre: place})
		}
	}
	return hops
}

// TestReplayOfWrongHops: each way in which a hop can be wrong, as the first one, behind others, and with others behind it.
func TestReplayOfWrongHops(t *testing.T) {
	n, need := squareNet(), betweenOf(0, 2)
	for _, at := range []struct {
		ahead string
		node  int64
		apart []int64
		seen  string
	}{
		{"", 0, ids(1, 2, 4), "b00 b03"},
		{"s00 u03", 0, ids(1, 2, 4), "b00 b03"},
		{"g00", 1, ids(2, 3), "g10 b11 b14"},
		{"g00 b10", 0, ids(1, 2, 4), "b00 b03"},
		{"g00 s10 g14", 3, ids(0, 1), "g33 g34 b32 b33"},
		{"g00 g14 b34 b10 g03", 3, ids(0, 1), "g33 b32 b34"},
		{"g03 g34", 1, ids(2, 3), "g10 g14 b10 b11"},
		{"g00 g14 g32", 2, ids(0, 3, 4), "g21 g22 b21"},
	} {
		holdReplay(t, "what is ahead", n, need, hopsOf(at.ahead), toldWay(wayByWords(hopsOf(at.ahead))...))
		for _, wrong := range append(wrongHops(at.node, at.apart), hopsOf(at.seen)...) {
			hops := append(hopsOf(at.ahead), wrong)
			holdReplay(t, "a wrong hop", n, need, hops, noWay(impl.ErrForm))
			holdReplay(t, "and others behind it", n, need, append(hops, hopsOf("s00")...), noWay(impl.ErrForm))
		}
	}
}

// TestReplayOfAllHops: all lists of three hops on a net of three nodes, wrong Kinds, Nodes and Fibres too.
func TestReplayOfAllHops(t *testing.T) {
	n := netOf(3, 1, fibreOf(0, 1, 1), fibreOf(1, 2, 1))
	all := []impl.Hop{}
	for kind := range int64(7) {
		for node := range int64(4) {
			for fibre := range int64(3) {
				all = append(all, impl.Hop{Kind: kind, Node: node, Fibre: fibre})
			}
		}
	}
	codes := map[int64]int{}
	for _, a := range all {
		for _, b := range all {
			for _, c := range all {
				hops := []impl.Hop{a, b, c}
				got, want := impl.ReplayHops(n, betweenOf(1, 0), hops), replayByWords(n, betweenOf(1, 0), hops)
				codes[got.Code]++
				if got.Code != want.Code || !slices.Equal(got.List, want.List) {
					t.Fatalf("%v: %v, want %v", hops, got, want)
				}
			}
		}
	}
	if codes[impl.OK] != 376 {
		t.Errorf("codes told: %v", codes)
	}
}

// holdReplayed: the hops of a signal lead to its light's path, to From, or to where the budget ended.
func holdReplayed(t *testing.T, n impl.Net, need impl.Need, got impl.SignalResult) {
	t.Helper()
	want := toldWay(wayByWords(got.Hops)...)
	holdReplay(t, "a signal's", n, need, got.Hops, want)
	lit, found := litById(got.Lits, need.Id)
	if found && !slices.Equal(lit.Path, want.List) {
		t.Errorf("%s: the hops lead by %v, the light goes by %v", brief(n), want.List, lit.Path)
	}
	if got.Code == impl.ErrNone && len(want.List) != 0 {
		t.Errorf("%s: none was found, but the way stands at the end of %v", brief(n), want.List)
	}
}

func TestReplayOfSignals(t *testing.T) {
	draw := numbers{state: 2103}
	codes := map[int64]int{}
	for range 60 {
		n := drawnNet(&draw, 2+draw.below(7), 2+draw.below(7), 3+int(draw.below(9)), 40)
		lits := drawnLits(&draw, n, int(draw.below(30)), 3)
		for range 4 {
			need := needOf(1000, draw.below(n.Nodes), draw.below(n.Nodes), 1+draw.below(3), 20+draw.below(150))
			if need.From == need.To || need.Width > n.Slots || len(lits) == 40 {
				continue
			}
			whole := impl.SignalUp(n, lits, need, 20000)
			for _, budget := range []int64{20000, 1 + draw.below(whole.Used+1), 1 + draw.below(10)} {
				got := impl.SignalUp(n, lits, need, budget)
				codes[got.Code]++
				holdReplayed(t, n, need, got)
			}
		}
	}
	if codes[impl.OK] < 60 || codes[impl.ErrNone] < 60 || codes[impl.ErrMany] < 60 {
		t.Errorf("codes told: %v", codes)
	}
	long := impl.SignalUp(longestNet(), nil, needOf(1, 0, 7, 1, 1000), 20000)
	holdReplayed(t, longestNet(), needOf(1, 0, 7, 1, 1000), long)
}
