package tests

import (
	"math"
	"slices"
	"testing"

	"loop.example/g00049/impl"
)

func noRoutes(code int64) impl.RouteList {
	return impl.RouteList{Code: code}
}

func toldRoutes(routes ...[]int64) impl.RouteList {
	return impl.RouteList{Routes: routes}
}

// isRouteAhead says whether a comes ahead of b in the stated order.
func isRouteAhead(n impl.Net, a []int64, b []int64) bool {
	if kmByWords(n, a) != kmByWords(n, b) {
		return kmByWords(n, a) < kmByWords(n, b)
	}
	if len(a) != len(b) {
		return len(a) < len(b)
	}
	for i := range a {
		if a[i] != b[i] {
			return a[i] < b[i]
		}
	}
	return false
}

// firstOnes takes the route that no other one is ahead of, again and again.
func firstOnes(n impl.Net, all [][]int64, most int64) [][]int64 {
	left, first := slices.Clone(all), [][]int64{}
	for len(left) > 0 && int64(len(first)) < most {
		best := 0
		for i := range left {
			if isRouteAhead(n, left[i], left[best]) {
				best = i
			}
		}
		first = append(first, left[best])
		left = slices.Delete(left, best, best+1)
	}
	return first
}

// allRoutes asks all lists of places that are as long as a route may be whether they have a fault.
func allRoutes(n impl.Net, from int64, to int64) [][]int64 {
	routes := [][]int64{}
	for _, path := range pathsUpTo(int(n.Nodes)-1, 0, int64(len(n.Fibres))-1) {
		if routeCodeByWords(n, from, to, path) == impl.OK {
			routes = append(routes, path)
		}
	}
	return routes
}

// fibresAlong are the places of the fibres that join node to node; false, if two are not joined.
func fibresAlong(n impl.Net, nodes []int64) ([]int64, bool) {
	path := []int64{}
	for i := 1; i < len(nodes); i++ {
		a, b := min(nodes[i-1], nodes[i]), max(nodes[i-1], nodes[i])
		place := slices.IndexFunc(n.Fibres, func(f impl.Fibre) bool { return f.A == a && f.B == b })
		if place < 0 {
			return nil, false
		}
		path = append(path, int64(place))
	}
	return path, true
}

// routesByNodes goes through all orders of nodes, joined or not, from one to the other.
func routesByNodes(n impl.Net, from int64, to int64) [][]int64 {
	routes := [][]int64{}
	for orders := [][]int64{{from}}; len(orders) > 0; orders = orders[1:] {
		for next := range n.Nodes {
			if slices.Contains(orders[0], next) {
				continue
			}
			nodes := append(slices.Clone(orders[0]), next)
			if next != to {
				orders = append(orders, nodes)
			} else if path, joined := fibresAlong(n, nodes); joined {
				routes = append(routes, path)
			}
		}
	}
	return routes
}

func routesByWords(n impl.Net, from int64, to int64, most int64) impl.RouteList {
	if code := netCodeByWords(n); code != impl.OK {
		return noRoutes(code)
	}
	if from < 0 || from >= n.Nodes || to < 0 || to >= n.Nodes || from == to || most < 1 || most > 200 {
		return noRoutes(impl.ErrForm)
	}
	return toldRoutes(firstOnes(n, routesByNodes(n, from, to), most)...)
}

func holdRoutes(t *testing.T, what string, n impl.Net, from int64, to int64, most int64, want impl.RouteList) {
	t.Helper()
	ask := func(a netArgs) impl.RouteList { return impl.RoutesOf(a.net, from, to, most) }
	holdNet(t, what+", RoutesOf", netArgs{net: n}, ask, want)
}

// manyRoutesNet has more routes from 0 to 7 than any other net of as many fibres that a long search has found.
func manyRoutesNet(km int64) impl.Net {
	n := netOf(8, 8)
	for _, ends := range [][2]int64{{0, 2}, {0, 3}, {0, 6}, {1, 2}, {1, 3}, {1, 5}, {1, 6}, {1, 7}, {2, 3}, {2, 5}, {2, 6}, {3, 5}, {3, 6}, {5, 7}} {
		n.Fibres = append(n.Fibres, fibreOf(ends[0], ends[1], km))
	}
	return n
}

func TestRoutesTold(t *testing.T) {
	n := squareNet()
	holdRoutes(t, "0 to 2", n, 0, 2, 200, toldRoutes([]int64{0, 1}, []int64{0, 4, 2}, []int64{3, 4, 1}, []int64{3, 2}))
	holdRoutes(t, "2 to 0", n, 2, 0, 200, toldRoutes([]int64{1, 0}, []int64{2, 4, 0}, []int64{1, 4, 3}, []int64{2, 3}))
	holdRoutes(t, "0 to 3", n, 0, 3, 200, toldRoutes([]int64{0, 4}, []int64{3}, []int64{0, 1, 2}))
	holdRoutes(t, "1 to 3", n, 1, 3, 200, toldRoutes([]int64{4}, []int64{0, 3}, []int64{1, 2}))
	holdRoutes(t, "one fibre", netOf(2, 1, fibreOf(0, 1, 3)), 1, 0, 1, toldRoutes([]int64{0}))
}

// TestRoutesOfTheSameKm: fewer fibres come first; of as many, the first place that is unlike counts.
func TestRoutesOfTheSameKm(t *testing.T) {
	ring := netOf(4, 1, fibreOf(0, 1, 3), fibreOf(1, 2, 1), fibreOf(0, 2, 4), fibreOf(0, 3, 2), fibreOf(2, 3, 2))
	holdRoutes(t, "fewer fibres first", ring, 0, 2, 200, toldRoutes([]int64{2}, []int64{0, 1}, []int64{3, 4}))
	holdRoutes(t, "from behind", ring, 2, 0, 200, toldRoutes([]int64{2}, []int64{1, 0}, []int64{4, 3}))
	late := netOf(4, 1, fibreOf(2, 3, 1), fibreOf(1, 3, 1), fibreOf(0, 2, 1), fibreOf(0, 1, 1), fibreOf(1, 2, 1))
	holdRoutes(t, "the first that is unlike", late, 0, 3, 200, toldRoutes([]int64{2, 0}, []int64{3, 1}, []int64{2, 4, 1}, []int64{3, 4, 0}))
	holdRoutes(t, "unlike behind", late, 3, 0, 200, toldRoutes([]int64{0, 2}, []int64{1, 3}, []int64{0, 4, 3}, []int64{1, 4, 2}))
	fork := netOf(5, 1, fibreOf(0, 1, 1), fibreOf(1, 3, 1), fibreOf(3, 4, 1), fibreOf(1, 2, 1), fibreOf(2, 4, 1))
	holdRoutes(t, "the first one alike", fork, 0, 4, 200, toldRoutes([]int64{0, 1, 2}, []int64{0, 3, 4}))
	holdRoutes(t, "the last one alike", fork, 4, 0, 200, toldRoutes([]int64{2, 1, 0}, []int64{4, 3, 0}))
}

func TestRoutesOfMost(t *testing.T) {
	n := manyRoutesNet(1)
	all := routesByWords(n, 0, 7, 200)
	if len(all.Routes) != 68 {
		t.Fatalf("%d routes", len(all.Routes))
	}
	for _, most := range []int64{1, 2, 3, 67, 68, 69, 199, 200} {
		holdRoutes(t, "most", n, 0, 7, most, toldRoutes(all.Routes[:min(most, 68)]...))
	}
	for _, most := range []int64{0, -1, 201, 202, 1 << 32, 1<<32 + 1, math.MaxInt64, math.MinInt64, math.MinInt64 + 1} {
		holdRoutes(t, "wrong most", n, 0, 7, most, noRoutes(impl.ErrForm))
		holdRoutes(t, "wrong most, none joined", netOf(3, 1), 0, 2, most, noRoutes(impl.ErrForm))
		for what, wrong := range wrongNets() {
			holdRoutes(t, what, wrong, 0, 1, most, noRoutes(netCodeByWords(wrong)))
		}
	}
}

func TestRoutesOfWrongEnds(t *testing.T) {
	n := squareNet()
	for _, most := range []int64{0, 1, 200, 201} {
		for _, end := range []int64{-1, 4, 5, 8, 1 << 32, math.MaxInt64, math.MinInt64, math.MinInt64 + 1} {
			holdRoutes(t, "from", n, end, 1, most, noRoutes(impl.ErrForm))
			holdRoutes(t, "to", n, 1, end, most, noRoutes(impl.ErrForm))
			holdRoutes(t, "both", n, end, end, most, noRoutes(impl.ErrForm))
			for what, wrong := range wrongNets() {
				holdRoutes(t, what, wrong, end, 1, most, noRoutes(netCodeByWords(wrong)))
			}
		}
		for node := range int64(4) {
			holdRoutes(t, "the same two", n, node, node, most, noRoutes(impl.ErrForm))
		}
	}
	for what, wrong := range wrongNets() {
		holdRoutes(t, what, wrong, 0, 1, 1, noRoutes(netCodeByWords(wrong)))
	}
}

func TestRoutesOfNodesThatAreNotJoined(t *testing.T) {
	holdRoutes(t, "no fibre", netOf(2, 1), 0, 1, 200, toldRoutes())
	holdRoutes(t, "no fibre", netOf(8, 64), 7, 0, 1, toldRoutes())
	halves := netOf(6, 1, fibreOf(0, 1, 1), fibreOf(1, 2, 1), fibreOf(0, 2, 1), fibreOf(3, 4, 1), fibreOf(4, 5, 1), fibreOf(3, 5, 1))
	for from := range int64(6) {
		for to := range int64(6) {
			want := routesByWords(halves, from, to, 200)
			if from/3 != to/3 && (want.Code != impl.OK || len(want.Routes) != 0) {
				t.Errorf("the words find a way from %d to %d", from, to)
			}
			holdRoutes(t, "halves", halves, from, to, 200, want)
		}
	}
}

// TestRoutesOfAllSmallNets: all nets of four nodes, whose fibres are as long as drawn, held against all lists of places.
func TestRoutesOfAllSmallNets(t *testing.T) {
	draw := numbers{state: 1810}
	whole := joinedNet(4, 1, 6)
	for some := range 1 << 6 {
		n := netOf(4, 1)
		for i, f := range whole.Fibres {
			if some>>i&1 == 1 {
				n.Fibres = append(n.Fibres, fibreOf(f.A, f.B, 1+draw.below(3)))
			}
		}
		n.Fibres = shuffled(&draw, n.Fibres)
		for from := range int64(4) {
			for to := range int64(4) {
				if from == to {
					continue
				}
				want := firstOnes(n, allRoutes(n, from, to), 200)
				holdRoutes(t, "small", n, from, to, 200, toldRoutes(want...))
				if byNodes := routesByWords(n, from, to, 200); !sameRows(byNodes.Routes, want) {
					t.Errorf("the words tell %v, then %v", want, byNodes)
				}
			}
		}
	}
}

func TestRoutesOfFiveNodes(t *testing.T) {
	draw := numbers{state: 1811}
	for range 12 {
		n := drawnNet(&draw, 5, 1, 6+int(draw.below(3)), 3)
		from := draw.below(5)
		to := (from + 1 + draw.below(4)) % 5
		holdRoutes(t, "five nodes", n, from, to, 200, toldRoutes(firstOnes(n, allRoutes(n, from, to), 200)...))
	}
	whole := joinedNet(5, 1, 10)
	for from := range int64(5) {
		for to := range int64(5) {
			want := routesByWords(whole, from, to, 200)
			if from != to && len(want.Routes) != 16 {
				t.Errorf("the words tell %d routes from %d to %d", len(want.Routes), from, to)
			}
			holdRoutes(t, "all joined", whole, from, to, 200, want)
		}
	}
}

// TestRoutesOfGreatNets: as many nodes and fibres as may be, of few lengths and of many.
func TestRoutesOfGreatNets(t *testing.T) {
	draw := numbers{state: 1812}
	for _, km := range []int64{1, 2, 5, 100000} {
		for range 15 {
			n := drawnNet(&draw, 8, 1, 14, km)
			from := draw.below(8)
			to := (from + 1 + draw.below(7)) % 8
			most := []int64{200, 200, 1 + draw.below(200), 1}[draw.below(4)]
			holdRoutes(t, "great", n, from, to, most, routesByWords(n, from, to, most))
		}
	}
	for _, n := range []impl.Net{joinedNet(8, 1, 14), joinedNet(6, 1, 14), manyRoutesNet(100000)} {
		for from := range int64(8) {
			for to := range int64(8) {
				holdRoutes(t, "as many as may be", n, from, to, 200, routesByWords(n, from, to, 200))
			}
		}
	}
}

// TestRoutesHaveNoFault: and are as many as there are from the other end, each turned round.
func TestRoutesHaveNoFault(t *testing.T) {
	draw := numbers{state: 1813}
	for range 50 {
		n := drawnNet(&draw, 8, 1, 14, 9)
		from := draw.below(8)
		to := (from + 1 + draw.below(7)) % 8
		there, back := impl.RoutesOf(n, from, to, 200).Routes, impl.RoutesOf(n, to, from, 200).Routes
		if len(there) != len(back) {
			t.Errorf("%d routes there, %d back", len(there), len(back))
		}
		for _, path := range there {
			if code := impl.RouteFault(n, from, to, path); code != impl.OK {
				t.Errorf("route %v from %d to %d: code %d", path, from, to, code)
			}
			slices.Reverse(path)
			if !slices.ContainsFunc(back, func(other []int64) bool { return slices.Equal(other, path) }) {
				t.Errorf("no way back along %v", path)
			}
		}
	}
}
