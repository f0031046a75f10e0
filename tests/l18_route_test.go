package tests

import (
	"math"
	"slices"
	"testing"

	"loop.example/g00049/impl"
)

// routeCodeByWords goes along the path and remembers all nodes where it was.
func routeCodeByWords(n impl.Net, from int64, to int64, path []int64) int64 {
	if code := netCodeByWords(n); code != impl.OK {
		return code
	}
	if from < 0 || from >= n.Nodes || to < 0 || to >= n.Nodes || from == to || len(path) == 0 {
		return impl.ErrForm
	}
	nodes := []int64{from}
	for _, place := range path {
		if place < 0 || place >= int64(len(n.Fibres)) {
			return impl.ErrRange
		}
		here, f := nodes[len(nodes)-1], n.Fibres[place]
		if here != f.A && here != f.B {
			return impl.ErrForm
		}
		next := f.A + f.B - here
		if slices.Contains(nodes, next) {
			return impl.ErrForm
		}
		nodes = append(nodes, next)
	}
	if nodes[len(nodes)-1] != to {
		return impl.ErrForm
	}
	return impl.OK
}

func kmByWords(n impl.Net, path []int64) int64 {
	if netCodeByWords(n) != impl.OK {
		return 0
	}
	km := int64(0)
	for _, place := range path {
		if place < 0 || place >= int64(len(n.Fibres)) {
			return 0
		}
		km += n.Fibres[place].Km
	}
	return km
}

func holdRoute(t *testing.T, what string, n impl.Net, from int64, to int64, path []int64, want int64) {
	t.Helper()
	ask := func(a netArgs) int64 { return impl.RouteFault(a.net, from, to, a.path) }
	holdNet(t, what+", RouteFault", netArgs{net: n, path: path}, ask, want)
	if told := routeCodeByWords(n, from, to, path); told != want {
		t.Errorf("%s: the words tell %d of %v from %d to %d, not %d", what, told, brief(path), from, to, want)
	}
}

func holdKm(t *testing.T, what string, n impl.Net, path []int64, want int64) {
	t.Helper()
	holdNet(t, what+", RouteKm", netArgs{net: n, path: path}, func(a netArgs) int64 { return impl.RouteKm(a.net, a.path) }, want)
	if told := kmByWords(n, path); told != want {
		t.Errorf("%s: the words tell %d km of %v, not %d", what, told, brief(path), want)
	}
}

// noFibres are numbers that are no fibre of the square net.
func noFibres() []int64 {
	return []int64{-1, -2, 5, 6, 14, 1 << 32, -1 << 32, math.MaxInt64, math.MinInt64, math.MinInt64 + 1}
}

func TestRouteFaultTold(t *testing.T) {
	n := squareNet()
	for _, right := range []struct {
		from, to int64
		path     []int64
	}{
		{0, 1, []int64{0}}, {1, 0, []int64{0}}, {0, 2, []int64{0, 1}}, {2, 0, []int64{1, 0}}, {0, 2, []int64{3, 2}}, {0, 2, []int64{0, 4, 2}},
		{0, 2, []int64{3, 4, 1}}, {0, 1, []int64{3, 2, 1}}, {0, 3, []int64{3}}, {3, 1, []int64{4}}, {2, 1, []int64{2, 3, 0}},
	} {
		holdRoute(t, "right", n, right.from, right.to, right.path, impl.OK)
	}
	holdRoute(t, "ends early", n, 0, 2, []int64{0}, impl.ErrForm)
	holdRoute(t, "ends late", n, 0, 1, []int64{0, 1}, impl.ErrForm)
	holdRoute(t, "the other way", n, 1, 2, []int64{0}, impl.ErrForm)
	holdRoute(t, "not joined", n, 0, 2, []int64{1}, impl.ErrForm)
	holdRoute(t, "not joined behind", n, 0, 3, []int64{0, 2}, impl.ErrForm)
	holdRoute(t, "back at once", n, 0, 1, []int64{0, 0}, impl.ErrForm)
	holdRoute(t, "back and on", n, 0, 1, []int64{0, 0, 0}, impl.ErrForm)
	holdRoute(t, "back to from", n, 0, 2, []int64{0, 4, 3, 0, 1}, impl.ErrForm)
	holdRoute(t, "back to another", n, 0, 2, []int64{0, 1, 2, 4, 1}, impl.ErrForm)
	holdRoute(t, "through to and back to it", n, 0, 1, []int64{0, 1, 2, 4}, impl.ErrForm)
}

func TestRouteFaultOfEnds(t *testing.T) {
	n := squareNet()
	wrong := []int64{-1, -2, 4, 5, 8, 1 << 32, math.MaxInt64, math.MinInt64, math.MinInt64 + 1}
	for _, path := range [][]int64{nil, {}, {0}, {0, 1}, {99}, {-1, 0}, {3, 0, 0}} {
		for _, end := range wrong {
			holdRoute(t, "from", n, end, 1, path, impl.ErrForm)
			holdRoute(t, "to", n, 0, end, path, impl.ErrForm)
			holdRoute(t, "both", n, end, end, path, impl.ErrForm)
		}
		for node := range int64(4) {
			holdRoute(t, "the same two", n, node, node, path, impl.ErrForm)
		}
	}
	for from := range int64(4) {
		for to := range int64(4) {
			holdRoute(t, "nil", n, from, to, nil, impl.ErrForm)
			holdRoute(t, "empty", n, from, to, []int64{}, impl.ErrForm)
		}
	}
	holdRoute(t, "one node", netOf(1, 1), 0, 0, []int64{0}, impl.ErrForm)
	holdRoute(t, "no fibre", netOf(2, 1), 0, 1, []int64{0}, impl.ErrRange)
	holdRoute(t, "no fibre and no path", netOf(2, 1), 0, 1, nil, impl.ErrForm)
}

// TestRouteFaultsAlongThePath: the first one is told, whatever is behind it.
func TestRouteFaultsAlongThePath(t *testing.T) {
	n := squareNet()
	for _, none := range noFibres() {
		holdRoute(t, "alone", n, 0, 1, []int64{none}, impl.ErrRange)
		holdRoute(t, "first", n, 0, 2, []int64{none, 1}, impl.ErrRange)
		holdRoute(t, "last", n, 0, 2, []int64{0, none}, impl.ErrRange)
		holdRoute(t, "behind to", n, 0, 1, []int64{0, none}, impl.ErrRange)
		holdRoute(t, "ahead of one that is not joined", n, 0, 2, []int64{0, none, 3}, impl.ErrRange)
		holdRoute(t, "behind one that is not joined", n, 0, 2, []int64{1, none}, impl.ErrForm)
		holdRoute(t, "behind a way back", n, 0, 2, []int64{0, 0, none}, impl.ErrForm)
		holdRoute(t, "behind a ring", n, 0, 2, []int64{0, 4, 3, none}, impl.ErrForm)
		holdRoute(t, "same ends", n, 2, 2, []int64{none}, impl.ErrForm)
	}
	holdRoute(t, "very long", n, 0, 1, slices.Repeat([]int64{0}, 100001), impl.ErrForm)
}

func TestRouteFaultOfWrongNets(t *testing.T) {
	for what, n := range wrongNets() {
		code := netCodeByWords(n)
		for _, path := range [][]int64{nil, {0}, {0, 1}, {-1}, {99}} {
			holdRoute(t, what, n, 0, 1, path, code)
			holdRoute(t, what, n, 1, 1, path, code)
			holdRoute(t, what, n, -1, 99, path, code)
			holdKm(t, what, n, path, 0)
		}
	}
}

// pathsUpTo are all lists of up to so many numbers from least to most.
func pathsUpTo(length int, least int64, most int64) [][]int64 {
	paths := [][]int64{{}}
	for from := 0; length > 0; length-- {
		upTo := len(paths)
		for _, path := range paths[from:upTo] {
			for place := least; place <= most; place++ {
				paths = append(paths, append(slices.Clone(path), place))
			}
		}
		from = upTo
	}
	return paths
}

// TestRoutesOfAllPaths: all paths of up to four numbers, between all nodes and beside them.
func TestRoutesOfAllPaths(t *testing.T) {
	ring := netOf(4, 2, fibreOf(0, 1, 7), fibreOf(1, 2, 100000), fibreOf(2, 3, 1), fibreOf(0, 3, 50))
	codes := map[int64]int{}
	for _, n := range []impl.Net{squareNet(), ring, netOf(5, 1, fibreOf(1, 2, 3), fibreOf(0, 1, 3)), netOf(3, 64)} {
		for _, path := range pathsUpTo(4, -1, int64(len(n.Fibres))) {
			if got, want := impl.RouteKm(n, path), kmByWords(n, path); got != want {
				t.Errorf("RouteKm(%v, %v) = %d, want %d", n, path, got, want)
			}
			for from := int64(-1); from <= n.Nodes; from++ {
				for to := int64(-1); to <= n.Nodes; to++ {
					got, want := impl.RouteFault(n, from, to, path), routeCodeByWords(n, from, to, path)
					codes[want]++
					if got != want {
						t.Errorf("RouteFault(%v, %d, %d, %v) = %d, want %d", n, from, to, path, got, want)
					}
				}
			}
		}
	}
	if codes[impl.OK] < 40 || codes[impl.ErrForm] < 1000 || codes[impl.ErrRange] < 1000 {
		t.Errorf("codes told: %v", codes)
	}
}

func TestRouteKm(t *testing.T) {
	n := squareNet()
	holdKm(t, "nil", n, nil, 0)
	holdKm(t, "no number", n, []int64{}, 0)
	for i, f := range n.Fibres {
		holdKm(t, "one fibre", n, []int64{int64(i)}, f.Km)
		holdKm(t, "a fibre twice", n, []int64{int64(i), int64(i)}, 2*f.Km)
	}
	holdKm(t, "two", n, []int64{0, 1}, 30)
	holdKm(t, "two that are not joined", n, []int64{0, 2}, 40)
	holdKm(t, "all", n, []int64{4, 3, 2, 1, 0}, 105)
	holdKm(t, "very many", n, slices.Repeat([]int64{3, 4}, 50000), 50000*45)
	for _, none := range noFibres() {
		holdKm(t, "no fibre", n, []int64{none}, 0)
		holdKm(t, "first", n, []int64{none, 1, 2}, 0)
		holdKm(t, "last", n, []int64{0, 1, none}, 0)
	}
	holdKm(t, "longest", netOf(2, 1, fibreOf(0, 1, 100000)), []int64{0, 0, 0}, 300000)
	holdKm(t, "no fibres", netOf(2, 1), nil, 0)
	holdKm(t, "none of them", netOf(2, 1), []int64{0}, 0)
}
