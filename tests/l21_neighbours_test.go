package tests

import (
	"fmt"
	"math"
	"slices"
	"testing"

	"loop.example/g00049/impl"
)

func neighbourOf(node int64, fibre int64) impl.Neighbour {
	return impl.Neighbour{Node: node, Fibre: fibre}
}

func noNeighbours(code int64) impl.NeighbourList {
	return impl.NeighbourList{Code: code}
}

func toldNeighbours(list ...impl.Neighbour) impl.NeighbourList {
	return impl.NeighbourList{List: list}
}

// neighboursByWords asks for each other node which fibre leads there, and then lays them by place.
func neighboursByWords(n impl.Net, node int64) impl.NeighbourList {
	if code := netCodeByWords(n); code != impl.OK {
		return noNeighbours(code)
	}
	if node < 0 || node >= n.Nodes {
		return noNeighbours(impl.ErrForm)
	}
	byPlace := make([][]impl.Neighbour, len(n.Fibres))
	for other := range n.Nodes {
		if path, joined := fibresAlong(n, []int64{node, other}); joined {
			byPlace[path[0]] = []impl.Neighbour{neighbourOf(other, path[0])}
		}
	}
	return toldNeighbours(slices.Concat(byPlace...)...)
}

func holdNeighbours(t *testing.T, what string, n impl.Net, node int64, want impl.NeighbourList) {
	t.Helper()
	ask := func(a netArgs) impl.NeighbourList { return impl.NeighboursOf(a.net, node) }
	holdNet(t, fmt.Sprint(what, ", NeighboursOf ", node), netArgs{net: n}, ask, want)
	if told := neighboursByWords(n, node); fmt.Sprint(told) != fmt.Sprint(want) {
		t.Errorf("%s: the words tell %s of %d, not %s", what, brief(told), node, brief(want))
	}
}

// noNodes are no nodes of any net with so many.
func noNodes(nodes int64) []int64 {
	return []int64{-1, -2, -nodes, nodes, nodes + 1, 8, 9, 1 << 32, -1 << 32, 1<<32 + 1, math.MaxInt64 - 1, math.MaxInt64, math.MinInt64, math.MinInt64 + 1}
}

func TestSignalConstants(t *testing.T) {
	if impl.HopGo != 1 || impl.HopFull != 2 || impl.HopFar != 3 || impl.HopSeen != 4 || impl.HopBack != 5 || impl.MaxHops != 20000 {
		t.Error("a constant is another one")
	}
}

func TestNeighboursTold(t *testing.T) {
	n := squareNet()
	holdNeighbours(t, "square", n, 0, toldNeighbours(neighbourOf(1, 0), neighbourOf(3, 3)))
	holdNeighbours(t, "square", n, 1, toldNeighbours(neighbourOf(0, 0), neighbourOf(2, 1), neighbourOf(3, 4)))
	holdNeighbours(t, "square", n, 2, toldNeighbours(neighbourOf(1, 1), neighbourOf(3, 2)))
	holdNeighbours(t, "square", n, 3, toldNeighbours(neighbourOf(2, 2), neighbourOf(0, 3), neighbourOf(1, 4)))
	holdNeighbours(t, "a line's one end", lineNet(1), 0, toldNeighbours(neighbourOf(1, 0)))
	holdNeighbours(t, "a line's other end", lineNet(64), 1, toldNeighbours(neighbourOf(0, 0)))
}

// TestNeighboursOfNone: nodes that no fibre joins.
func TestNeighboursOfNone(t *testing.T) {
	for nodes := int64(1); nodes <= 8; nodes++ {
		for node := range nodes {
			holdNeighbours(t, "nil", impl.Net{Nodes: nodes, Slots: 1}, node, toldNeighbours())
			holdNeighbours(t, "no fibre", netOf(nodes, 64, []impl.Fibre{}...), node, toldNeighbours())
		}
	}
	n := netOf(5, 4, fibreOf(1, 2, 1), fibreOf(2, 4, 1), fibreOf(1, 4, 1))
	holdNeighbours(t, "the first one alone", n, 0, toldNeighbours())
	holdNeighbours(t, "a middle one alone", n, 3, toldNeighbours())
	holdNeighbours(t, "joined", n, 4, toldNeighbours(neighbourOf(2, 1), neighbourOf(1, 2)))
	holdNeighbours(t, "the last one alone", netOf(4, 4, fibreOf(0, 1, 1)), 3, toldNeighbours())
}

// TestNeighboursByPlace: a node in the middle of a star, whose fibres lie in any order and lead down or up.
func TestNeighboursByPlace(t *testing.T) {
	for middle := range int64(8) {
		var up []impl.Fibre
		for other := range int64(8) {
			if other != middle {
				up = append(up, fibreOf(min(middle, other), max(middle, other), 1+other))
			}
		}
		draw := numbers{state: uint64(middle)}
		for _, fibres := range [][]impl.Fibre{up, shuffled(&draw, up), shuffled(&draw, up)} {
			var want []impl.Neighbour
			for place, fibre := range fibres {
				want = append(want, neighbourOf(fibre.A+fibre.B-middle, int64(place)))
			}
			n := netOf(8, 4, fibres...)
			holdNeighbours(t, "the middle", n, middle, toldNeighbours(want...))
			for _, one := range want {
				holdNeighbours(t, "an end", n, one.Node, toldNeighbours(neighbourOf(middle, one.Fibre)))
			}
		}
	}
}

func TestNeighboursOfNoNode(t *testing.T) {
	for nodes := int64(1); nodes <= 8; nodes++ {
		full := joinedNet(nodes, 4, 14)
		for _, node := range noNodes(nodes) {
			if node < 0 || node >= nodes {
				holdNeighbours(t, "no node", full, node, noNeighbours(impl.ErrForm))
				holdNeighbours(t, "no node, no fibre", netOf(nodes, 4), node, noNeighbours(impl.ErrForm))
			}
		}
		holdNeighbours(t, "the first", full, 0, neighboursByWords(full, 0))
		holdNeighbours(t, "the last", full, nodes-1, neighboursByWords(full, nodes-1))
	}
}

func TestNeighboursOfWrongNets(t *testing.T) {
	for what, wrong := range wrongNets() {
		for _, node := range []int64{0, 1, 3, 4, -1, math.MaxInt64, math.MinInt64} {
			holdNeighbours(t, what, wrong, node, noNeighbours(netCodeByWords(wrong)))
		}
	}
	twice := changedNet(squareNet(), func(n *impl.Net) { n.Fibres = append(n.Fibres, fibreOf(1, 3, 77)) })
	turned := changedNet(squareNet(), func(n *impl.Net) { n.Fibres[2] = fibreOf(3, 2, 5) })
	for _, node := range []int64{0, 1, 2, 3, 4, -1} {
		holdNeighbours(t, "two fibres between the same two", twice, node, noNeighbours(impl.ErrForm))
		holdNeighbours(t, "a fibre told the wrong way", turned, node, noNeighbours(impl.ErrForm))
		holdNeighbours(t, "nothing", impl.Net{}, node, noNeighbours(impl.ErrForm))
	}
}

// TestNeighboursByWords: in each net a node is its neighbours' neighbour, and each fibre is told twice.
func TestNeighboursByWords(t *testing.T) {
	draw := numbers{state: 2100}
	for range 120 {
		n := drawnNet(&draw, 1+draw.below(8), 4, int(draw.below(15)), 40)
		ends := 0
		for node := range n.Nodes {
			want := neighboursByWords(n, node)
			holdNeighbours(t, "drawn", n, node, want)
			ends += len(want.List)
			for _, one := range want.List {
				if !slices.Contains(impl.NeighboursOf(n, one.Node).List, neighbourOf(node, one.Fibre)) {
					t.Errorf("%s: %d is a neighbour of %d, but not so the other way", brief(n), one.Node, node)
				}
			}
		}
		if ends != 2*len(n.Fibres) {
			t.Errorf("%s: %d neighbours of %d fibres", brief(n), ends, len(n.Fibres))
		}
	}
}
