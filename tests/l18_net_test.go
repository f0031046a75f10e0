package tests

import (
	"fmt"
	"math"
	"slices"
	"testing"

	"loop.example/g00049/impl"
)

func fibreOf(a int64, b int64, km int64) impl.Fibre {
	return impl.Fibre{A: a, B: b, Km: km}
}

func netOf(nodes int64, slots int64, fibres ...impl.Fibre) impl.Net {
	return impl.Net{Nodes: nodes, Slots: slots, Fibres: fibres}
}

// squareNet has four nodes in a ring, and one way across.
func squareNet() impl.Net {
	return netOf(4, 6, fibreOf(0, 1, 10), fibreOf(1, 2, 20), fibreOf(2, 3, 30), fibreOf(0, 3, 40), fibreOf(1, 3, 5))
}

// joinedNet joins so many of its nodes' pairs, the first ones first, by fibres of 1 km.
func joinedNet(nodes int64, slots int64, fibres int) impl.Net {
	n := netOf(nodes, slots)
	for b := range nodes {
		for a := range b {
			if len(n.Fibres) < fibres {
				n.Fibres = append(n.Fibres, fibreOf(a, b, 1))
			}
		}
	}
	return n
}

// drawnNet joins pairs that are drawn, by fibres of up to so many km.
func drawnNet(draw *numbers, nodes int64, slots int64, fibres int, km int64) impl.Net {
	n := joinedNet(nodes, slots, 28)
	n.Fibres = shuffled(draw, n.Fibres)[:min(fibres, len(n.Fibres))]
	for i := range n.Fibres {
		n.Fibres[i].Km = 1 + draw.below(km)
	}
	return n
}

func changedNet(n impl.Net, change func(*impl.Net)) impl.Net {
	n.Fibres = slices.Clone(n.Fibres)
	change(&n)
	return n
}

// netCodeByWords looks through the net in the order of the words.
func netCodeByWords(n impl.Net) int64 {
	if n.Nodes > 8 || len(n.Fibres) > 14 {
		return impl.ErrMany
	}
	if n.Nodes < 1 || n.Slots < 1 || n.Slots > 64 {
		return impl.ErrForm
	}
	for i, f := range n.Fibres {
		if f.A < 0 || f.A >= n.Nodes || f.B < 0 || f.B >= n.Nodes || f.A >= f.B || f.Km < 1 || f.Km > 100000 {
			return impl.ErrForm
		}
		for _, ahead := range n.Fibres[:i] {
			if ahead.A == f.A && ahead.B == f.B {
				return impl.ErrForm
			}
		}
	}
	return impl.OK
}

// netArgs are what a call is given of a net, of its lights, of a path, of guards, of orders and of hops.
type netArgs struct {
	net    impl.Net
	lits   []impl.Lit
	path   []int64
	guards []impl.Guard
	orders []impl.Order
	hops   []impl.Hop
}

func (a netArgs) withRoom() netArgs {
	a.net.Fibres = roomy(a.net.Fibres, fibreOf(0, 7, 9))
	a.lits = roomy(a.lits, impl.Lit{Id: 999, To: 1, Path: []int64{0}, Width: 1})
	for i := range a.lits {
		a.lits[i].Path = roomy(a.lits[i].Path, 13)
	}
	a.path = roomy(a.path, 12)
	a.guards = roomy(a.guards, impl.Guard{Work: 998, Spare: 999})
	a.orders = roomy(a.orders, impl.Order{Up: true, Need: needOf(997, 0, 1, 1, 1000)})
	a.hops = roomy(a.hops, impl.Hop{Kind: impl.HopGo, Node: 9, Fibre: 9})
	return a
}

func (a netArgs) picture() string {
	lits := slices.Clone(a.lits[:cap(a.lits)])
	lengths := []int{}
	for i, lit := range lits {
		lengths = append(lengths, len(lit.Path))
		lits[i].Path = lit.Path[:cap(lit.Path)]
	}
	return fmt.Sprint(a.net.Fibres[:cap(a.net.Fibres)], lits, lengths, a.path[:cap(a.path)], a.guards[:cap(a.guards)], a.orders[:cap(a.orders)], a.hops[:cap(a.hops)])
}

func pathsOf(lits []impl.Lit) [][]int64 {
	paths := [][]int64{}
	for _, lit := range lits {
		paths = append(paths, lit.Path)
	}
	return paths
}

// spoilAll writes over a list, behind its end too.
func spoilAll[T any](list []T, with T) {
	for i := range list[:cap(list)] {
		list[:cap(list)][i] = with
	}
}

// spoilAnswer writes wherever an answer's lists reach; no two of them may have memory in common.
func spoilAnswer(t *testing.T, answer any) {
	t.Helper()
	switch told := answer.(type) {
	case impl.RouteList:
		holdOwnLists(t, told.Routes)
		spoilRows(told.Routes)
	case impl.RowsResult:
		holdOwnLists(t, told.Rows)
		spoilRows(told.Rows)
	case impl.WaveResult:
		spoilRows([][]int64{told.List})
	case impl.LitsResult:
		holdOwnLists(t, pathsOf(told.Lits))
		spoilAll(told.Lits, impl.Lit{Id: -7, First: -7})
	case impl.PairResult:
		holdOwnLists(t, [][]int64{told.Work, told.Spare})
	case impl.GuardResult:
		holdOwnLists(t, pathsOf(told.Lits))
		spoilAll(told.Lits, impl.Lit{Id: -7, First: -7})
		spoilAll(told.Guards, impl.Guard{Work: -7, Spare: -7})
	case impl.FailResult:
		holdOwnLists(t, append(pathsOf(told.Lits), told.Switched, told.Bare, told.Rerouted, told.Lost))
		spoilAll(told.Lits, impl.Lit{Id: -7, First: -7})
	case impl.SlideResult:
		holdOwnLists(t, pathsOf(told.Lits))
		spoilAll(told.Lits, impl.Lit{Id: -7, First: -7})
		spoilAll(told.Slides, impl.Slide{Id: -7, To: -7})
	case impl.NeighbourList:
		spoilAll(told.List, impl.Neighbour{Node: -7, Fibre: -7})
	case impl.SignalResult:
		holdOwnLists(t, pathsOf(told.Lits))
		spoilAll(told.Lits, impl.Lit{Id: -7, First: -7})
		spoilAll(told.Hops, impl.Hop{Kind: -7, Node: -7, Fibre: -7})
	case impl.OrdersResult:
		holdOwnLists(t, append(pathsOf(told.Lits), told.Codes))
		spoilAll(told.Lits, impl.Lit{Id: -7, First: -7})
	case impl.Net:
		spoilAll(told.Fibres, fibreOf(-7, -7, -7))
	case impl.ChainResult:
		spoilRows([][]int64{told.Levels})
	case []impl.Span:
		spoilAll(told, spanOf(-7, -7, -7, -7))
	case impl.PathResult:
		holdOwnLists(t, append(slices.Clone(told.Points), told.Merits))
		spoilRows(told.Points)
	case impl.FlawResult:
		spoilAll(told.Flaws, impl.Flaw{Kind: -7, I: -7, J: -7})
	case []impl.Rect:
		spoilAll(told, rectOf(-7, -7, -7, -7, -7))
	case impl.StepResult:
		spoilBench(t, told.Bench)
	case impl.RunResult:
		spoilBench(t, told.Bench)
	}
}

func holdNet[T any](t *testing.T, what string, args netArgs, ask func(netArgs) T, want T) {
	t.Helper()
	holdCall(t, what, args, ask, want)
}

func holdNetFault(t *testing.T, what string, n impl.Net, want int64) {
	t.Helper()
	holdNet(t, what+", NetFault", netArgs{net: n}, func(a netArgs) int64 { return impl.NetFault(a.net) }, want)
	if told := netCodeByWords(n); told != want {
		t.Errorf("%s: the words tell %d of %s, not %d", what, told, brief(n), want)
	}
}

// wrongNets have one fault each.
func wrongNets() map[string]impl.Net {
	return map[string]impl.Net{
		"nodes":      changedNet(squareNet(), func(n *impl.Net) { n.Nodes = 0 }),
		"many nodes": changedNet(squareNet(), func(n *impl.Net) { n.Nodes = 9 }),
		"fibres":     joinedNet(8, 4, 15),
		"slots":      changedNet(squareNet(), func(n *impl.Net) { n.Slots = 0 }),
		"many slots": changedNet(squareNet(), func(n *impl.Net) { n.Slots = 65 }),
		"a fibre":    changedNet(squareNet(), func(n *impl.Net) { n.Fibres[4].Km = 0 }),
		"two alike":  changedNet(squareNet(), func(n *impl.Net) { n.Fibres[4] = n.Fibres[0] }),
	}
}

func TestNetConstants(t *testing.T) {
	if impl.ErrTaken != 7 || impl.MaxNodes != 8 || impl.MaxLinks != 14 || impl.MaxSlots != 64 || impl.MaxLits != 40 || impl.MaxRoutes != 200 {
		t.Error("a constant is another one")
	}
}

func TestNetFaultOfNodes(t *testing.T) {
	for nodes := int64(1); nodes <= 8; nodes++ {
		holdNetFault(t, "nil", impl.Net{Nodes: nodes, Slots: 1}, impl.OK)
		holdNetFault(t, "none", impl.Net{Nodes: nodes, Slots: 1, Fibres: []impl.Fibre{}}, impl.OK)
		holdNetFault(t, "all", joinedNet(nodes, 64, 14), impl.OK)
	}
	for _, nodes := range []int64{0, -1, -8, math.MinInt64, math.MinInt64 + 1} {
		holdNetFault(t, "too few", netOf(nodes, 1), impl.ErrForm)
	}
	for _, nodes := range []int64{9, 10, 256, 257, 1 << 32, 1<<32 + 1, math.MaxInt64} {
		holdNetFault(t, "too many", netOf(nodes, 1), impl.ErrMany)
		holdNetFault(t, "too many, with fibres", netOf(nodes, 1, fibreOf(0, 1, 1)), impl.ErrMany)
	}
	holdNetFault(t, "nothing", impl.Net{}, impl.ErrForm)
}

func TestNetFaultOfSlots(t *testing.T) {
	for _, slots := range []int64{1, 2, 32, 63, 64} {
		holdNetFault(t, "slots", netOf(1, slots), impl.OK)
		holdNetFault(t, "slots", netOf(3, slots, fibreOf(0, 2, 7)), impl.OK)
	}
	for _, slots := range []int64{0, -1, 65, 66, 128, 257, 1 << 32, 1<<32 + 1, math.MaxInt64, math.MinInt64, math.MinInt64 + 1} {
		holdNetFault(t, "wrong slots", netOf(1, slots), impl.ErrForm)
		holdNetFault(t, "wrong slots", netOf(3, slots, fibreOf(0, 2, 7)), impl.ErrForm)
	}
}

func TestNetFaultOfManyFibres(t *testing.T) {
	for fibres := range 15 {
		holdNetFault(t, "fibres", joinedNet(8, 4, fibres), impl.OK)
	}
	for _, fibres := range []int{15, 16, 28} {
		holdNetFault(t, "too many fibres", joinedNet(8, 4, fibres), impl.ErrMany)
	}
	holdNetFault(t, "far too many", netOf(8, 4, make([]impl.Fibre, 1000)...), impl.ErrMany)
}

// TestNetFaultOfFibres: each wrong fibre as the first, a middle and the last one.
func TestNetFaultOfFibres(t *testing.T) {
	const most, least = math.MaxInt64, math.MinInt64
	wrong := []impl.Fibre{
		{}, fibreOf(-1, 3, 1), fibreOf(0, -1, 1), fibreOf(-2, -1, 1), fibreOf(0, 4, 1), fibreOf(3, 4, 1), fibreOf(4, 5, 1),
		fibreOf(0, 0, 1), fibreOf(3, 3, 1), fibreOf(3, 0, 1), fibreOf(2, 1, 1), fibreOf(0, most, 1), fibreOf(least, 3, 1),
		fibreOf(least, most, 1), fibreOf(most, least, 1), fibreOf(0, 1<<32+1, 1), fibreOf(-1<<32, 3, 1),
		fibreOf(0, 2, 0), fibreOf(0, 2, -1), fibreOf(0, 2, 100001), fibreOf(0, 2, most), fibreOf(0, 2, least), fibreOf(0, 2, 1<<32+1),
	}
	for _, f := range wrong {
		holdNetFault(t, "alone", netOf(4, 4, f), impl.ErrForm)
		for at := range 5 {
			holdNetFault(t, "in place", changedNet(squareNet(), func(n *impl.Net) { n.Fibres[at] = f }), impl.ErrForm)
		}
		holdNetFault(t, "behind", netOf(4, 6, append(squareNet().Fibres, f)...), impl.ErrForm)
	}
	for _, km := range []int64{1, 2, 99999, 100000} {
		for at := range 5 {
			holdNetFault(t, "km", changedNet(squareNet(), func(n *impl.Net) { n.Fibres[at].Km = km }), impl.OK)
		}
	}
	for nodes := int64(2); nodes <= 8; nodes++ {
		holdNetFault(t, "the last node", netOf(nodes, 1, fibreOf(nodes-2, nodes-1, 1)), impl.OK)
		holdNetFault(t, "one further", netOf(nodes, 1, fibreOf(nodes-1, nodes, 1)), impl.ErrForm)
	}
}

// TestNetFaultOfTheSameTwo: neighbours or not, of the same Km or another one.
func TestNetFaultOfTheSameTwo(t *testing.T) {
	for i := range 14 {
		for j := range i {
			for _, km := range []int64{1, 2, 100000} {
				n := joinedNet(8, 4, 14)
				n.Fibres[i] = fibreOf(n.Fibres[j].A, n.Fibres[j].B, km)
				holdNetFault(t, "the same two", n, impl.ErrForm)
			}
		}
	}
	holdNetFault(t, "one end in common", netOf(3, 1, fibreOf(0, 1, 5), fibreOf(0, 2, 5), fibreOf(1, 2, 5)), impl.OK)
}

// TestNetFaultsInTheirOrder: where there are too many nodes or fibres, nothing else counts.
func TestNetFaultsInTheirOrder(t *testing.T) {
	wrong := append(make([]impl.Fibre, 14), fibreOf(-1, 9, 0))
	for _, slots := range []int64{math.MinInt64, 0, 1, 64, 65, math.MaxInt64} {
		for _, nodes := range []int64{math.MinInt64, -1, 0, 1, 8, 9, math.MaxInt64} {
			holdNetFault(t, "fibres first", netOf(nodes, slots, wrong...), impl.ErrMany)
			n := netOf(nodes, slots, wrong[:14]...)
			holdNetFault(t, "fourteen wrong ones", n, netCodeByWords(n))
		}
		holdNetFault(t, "nodes first", netOf(9, slots, wrong[:1]...), impl.ErrMany)
	}
}

func TestNetFaultByWords(t *testing.T) {
	draw := numbers{state: 1800}
	codes := map[int64]int{}
	for range 2000 {
		n := drawnNet(&draw, 1+draw.below(8), 1+draw.below(64), int(draw.below(15)), 100000)
		for range draw.below(2) * int64(min(len(n.Fibres), 1)) {
			f := &n.Fibres[draw.below(int64(len(n.Fibres)))]
			field := []*int64{&f.A, &f.B, &f.Km, &n.Nodes, &n.Slots}[draw.below(5)]
			*field += draw.below(5) - 2
		}
		codes[netCodeByWords(n)]++
		holdNetFault(t, "drawn", n, netCodeByWords(n))
	}
	if codes[impl.OK] < 200 || codes[impl.ErrForm] < 200 || codes[impl.ErrMany] < 5 {
		t.Errorf("codes told: %v", codes)
	}
}
