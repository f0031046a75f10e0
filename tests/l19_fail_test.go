package tests

import (
	"fmt"
	"math"
	"slices"
	"testing"

	"loop.example/g00049/impl"
)

func noFail(code int64) impl.FailResult {
	return impl.FailResult{Code: code}
}

func ids(list ...int64) []int64 {
	return list
}

// routeWithout is the first route with room that does not pass the fibre, and where the room begins; -1, if there is none.
func routeWithout(n impl.Net, there []impl.Lit, lit impl.Lit, fibre int64) ([]int64, int64) {
	for _, path := range routesByWords(n, lit.From, lit.To, 200).Routes {
		if slices.Contains(path, fibre) {
			continue
		}
		if first := fitByFree(n, there, path, lit.Width); first >= 0 {
			return path, first
		}
	}
	return nil, -1
}

func failByWords(n impl.Net, lits []impl.Lit, guards []impl.Guard, fibre int64) impl.FailResult {
	if code := guardsCodeByWords(n, lits, guards); code != impl.OK {
		return noFail(code)
	}
	if fibre < 0 || fibre >= int64(len(n.Fibres)) {
		return noFail(impl.ErrRange)
	}
	told, dark := impl.FailResult{}, []impl.Lit{}
	for _, lit := range lits {
		if slices.Contains(lit.Path, fibre) {
			dark = append(dark, lit)
		} else {
			told.Lits = append(told.Lits, lit)
		}
	}
	for _, guard := range guards {
		if _, isDark := litById(dark, guard.Work); isDark {
			told.Switched = append(told.Switched, guard.Work)
		}
		if _, isDark := litById(dark, guard.Spare); isDark {
			told.Bare = append(told.Bare, guard.Work)
		}
	}
	for _, lit := range dark {
		if slices.Contains(idsOf(guards), lit.Id) {
			continue
		}
		path, first := routeWithout(n, told.Lits, lit, fibre)
		if first < 0 {
			told.Lost = append(told.Lost, lit.Id)
			continue
		}
		told.Lits = byId(told.Lits, litOf(lit.Id, lit.From, lit.To, first, lit.Width, path...))
		told.Rerouted = append(told.Rerouted, lit.Id)
	}
	return told
}

func holdFail(t *testing.T, what string, n impl.Net, lits []impl.Lit, guards []impl.Guard, fibre int64, want impl.FailResult) {
	t.Helper()
	ask := func(a netArgs) impl.FailResult { return impl.FailFibre(a.net, a.lits, a.guards, fibre) }
	holdNet(t, fmt.Sprint(what, ", FailFibre of ", fibre), netArgs{net: n, lits: lits, guards: guards}, ask, want)
	if told := failByWords(n, lits, guards, fibre); fmt.Sprint(told) != fmt.Sprint(want) {
		t.Errorf("%s: the words tell %s of %d, not %s", what, brief(told), fibre, brief(want))
	}
}

func holdCut(t *testing.T, what string, n impl.Net, fibre int64, want impl.Net) {
	t.Helper()
	ask := func(a netArgs) impl.Net { return impl.CutNet(a.net, fibre) }
	holdNet(t, fmt.Sprint(what, ", CutNet of ", fibre), netArgs{net: n}, ask, want)
}

func TestCutNetTold(t *testing.T) {
	for _, n := range []impl.Net{squareNet(), lineNet(64), joinedNet(8, 1, 14), netOf(2, 1, fibreOf(0, 1, 100000)), netOf(2, 1, fibreOf(0, 1, 99999))} {
		for place := range n.Fibres {
			cut := changedNet(n, func(n *impl.Net) { n.Fibres[place].Km = 100000 })
			holdCut(t, "each fibre", n, int64(place), cut)
			holdCut(t, "again", cut, int64(place), cut)
			if code := impl.NetFault(impl.CutNet(n, int64(place))); code != impl.OK {
				t.Errorf("the cut net has code %d", code)
			}
		}
		for _, none := range append(noFibres(), int64(len(n.Fibres)), int64(len(n.Fibres))+1) {
			if none < 0 || none >= int64(len(n.Fibres)) {
				holdCut(t, "no place", n, none, n)
			}
		}
	}
	for _, none := range append(noFibres(), 0, 1) {
		holdCut(t, "no fibre", netOf(1, 1), none, netOf(1, 1))
		holdCut(t, "nil", impl.Net{Nodes: 8, Slots: 64}, none, impl.Net{Nodes: 8, Slots: 64})
		holdCut(t, "nothing", impl.Net{}, none, impl.Net{})
	}
}

func TestCutNetOfFaults(t *testing.T) {
	nets := wrongNets()
	nets["the first fibre"] = changedNet(squareNet(), func(n *impl.Net) { n.Fibres[0].Km = 100001 })
	nets["very many"] = netOf(8, 4, make([]impl.Fibre, 1000)...)
	for what, n := range nets {
		for place := int64(-1); place <= min(20, int64(len(n.Fibres))); place++ {
			holdCut(t, what, n, place, n)
		}
		for _, place := range []int64{math.MinInt64, math.MaxInt64, 1 << 32} {
			holdCut(t, what, n, place, n)
		}
	}
}

func TestFailFibreOfGuards(t *testing.T) {
	n := squareNet()
	lits := guardedLits()[1:5]
	guards := twoGuards()
	holdFail(t, "a Work and a Spare", n, lits, guards, 0, impl.FailResult{Lits: []impl.Lit{lits[1], lits[3]}, Switched: ids(10), Bare: ids(21)})
	holdFail(t, "a Work", n, lits, guards, 1, impl.FailResult{Lits: []impl.Lit{lits[1], lits[2], lits[3]}, Switched: ids(10)})
	holdFail(t, "a Spare", n, lits, guards, 2, impl.FailResult{Lits: []impl.Lit{lits[0], lits[2], lits[3]}, Bare: ids(10)})
	holdFail(t, "two Spares", n, lits, guards, 3, impl.FailResult{Lits: []impl.Lit{lits[0], lits[3]}, Bare: ids(21, 10)})
	holdFail(t, "a Work", n, lits, guards, 4, impl.FailResult{Lits: []impl.Lit{lits[0], lits[1], lits[2]}, Switched: ids(21)})
	about := []impl.Guard{guardOf(10, 11), guardOf(20, 21)}
	holdFail(t, "two Works", n, lits, about, 0, impl.FailResult{Lits: []impl.Lit{lits[1], lits[3]}, Switched: ids(10, 20)})
	holdFail(t, "a Spare, a Work", n, lits, about, 3, impl.FailResult{Lits: []impl.Lit{lits[0], lits[3]}, Switched: ids(20), Bare: ids(10)})
	slices.Reverse(about)
	holdFail(t, "two Works, the other order", n, lits, about, 0, impl.FailResult{Lits: []impl.Lit{lits[1], lits[3]}, Switched: ids(20, 10)})
}

// TestFailFibreInTheGuardsOrder: not by Id.
func TestFailFibreInTheGuardsOrder(t *testing.T) {
	n := triangleNet(64)
	lits, guards := thinGuarded(20)
	draw := numbers{state: 1930}
	for range 5 {
		guards = shuffled(&draw, guards)
		works, spares, about := []int64{}, []int64{}, []impl.Guard{}
		for _, guard := range guards {
			works = append(works, guard.Work)
			spares = append(spares, guard.Spare)
			about = append(about, guardOf(guard.Spare, guard.Work))
		}
		onWork, onSpare := []impl.Lit{}, []impl.Lit{}
		for i, lit := range lits {
			if i%2 == 0 {
				onWork = append(onWork, lit)
			} else {
				onSpare = append(onSpare, lit)
			}
		}
		holdFail(t, "all Works", n, lits, guards, 0, impl.FailResult{Lits: onSpare, Switched: works})
		holdFail(t, "all Spares", n, lits, guards, 1, impl.FailResult{Lits: onWork, Bare: works})
		holdFail(t, "all Spares", n, lits, guards, 2, impl.FailResult{Lits: onWork, Bare: works})
		holdFail(t, "all Works, turned about", n, lits, about, 1, impl.FailResult{Lits: onWork, Switched: spares})
		holdFail(t, "all Spares, turned about", n, lits, about, 0, impl.FailResult{Lits: onSpare, Bare: spares})
	}
}

func TestFailFibreOfNoLight(t *testing.T) {
	n := squareNet()
	for fibre := range int64(5) {
		holdFail(t, "nothing", n, nil, nil, fibre, impl.FailResult{})
	}
	lits := []impl.Lit{litOf(3, 0, 2, 0, 2, 0, 1), litOf(4, 0, 2, 0, 2, 3, 2)}
	holdFail(t, "none on it", n, lits, []impl.Guard{guardOf(4, 3)}, 4, impl.FailResult{Lits: lits})
	holdFail(t, "none on it, no guard", n, threeLits(), nil, 2, impl.FailResult{Lits: threeLits()})
	holdFail(t, "none on it, no guard", n, threeLits(), []impl.Guard{}, 3, impl.FailResult{Lits: threeLits()})
}

func TestFailFibreThatIsNone(t *testing.T) {
	n := squareNet()
	for _, none := range noFibres() {
		holdFail(t, "no fibre", n, guardedLits(), twoGuards(), none, noFail(impl.ErrRange))
		holdFail(t, "no fibre, no light", n, nil, nil, none, noFail(impl.ErrRange))
		holdFail(t, "a net of none", netOf(1, 1), nil, nil, none, noFail(impl.ErrRange))
	}
	holdFail(t, "a net of none", netOf(8, 64), nil, []impl.Guard{}, 0, noFail(impl.ErrRange))
}

func TestFailFibreOfFaults(t *testing.T) {
	for _, fibre := range []int64{0, 4, -1, 5, math.MaxInt64, math.MinInt64} {
		for what, guards := range wrongGuards() {
			holdFail(t, what, squareNet(), guardedLits(), guards, fibre, noFail(guardsCodeByWords(squareNet(), guardedLits(), guards)))
		}
		for _, guards := range [][]impl.Guard{nil, {guardOf(3, 5)}, make([]impl.Guard, 21)} {
			for what, lits := range wrongLits() {
				holdFail(t, what, squareNet(), lits, guards, fibre, noFail(litsCodeByWords(squareNet(), lits)))
			}
			for what, n := range wrongNets() {
				holdFail(t, what, n, nil, guards, fibre, noFail(netCodeByWords(n)))
				holdFail(t, what, n, guardedLits(), guards, fibre, noFail(netCodeByWords(n)))
				holdFail(t, what, n, thinLits(41), guards, fibre, noFail(netCodeByWords(n)))
			}
		}
	}
}

// TestFailFibreRerouted: to the first route without the fibre that has room, and to its first room.
func TestFailFibreRerouted(t *testing.T) {
	n := squareNet()
	lit := litOf(7, 0, 2, 3, 2, 0, 1)
	holdFail(t, "the first fibre", n, []impl.Lit{lit}, nil, 0, impl.FailResult{Lits: []impl.Lit{litOf(7, 0, 2, 0, 2, 3, 4, 1)}, Rerouted: ids(7)})
	holdFail(t, "the last fibre", n, []impl.Lit{lit}, nil, 1, impl.FailResult{Lits: []impl.Lit{litOf(7, 0, 2, 0, 2, 0, 4, 2)}, Rerouted: ids(7)})
	back := litOf(7, 2, 0, 3, 2, 1, 0)
	holdFail(t, "the other way", n, []impl.Lit{back}, nil, 0, impl.FailResult{Lits: []impl.Lit{litOf(7, 2, 0, 0, 2, 1, 4, 3)}, Rerouted: ids(7)})
	full := litOf(9, 1, 3, 1, 4, 4)
	holdFail(t, "the second route", n, []impl.Lit{lit, full}, nil, 0, impl.FailResult{Lits: []impl.Lit{litOf(7, 0, 2, 0, 2, 3, 2), full}, Rerouted: ids(7)})
	half := litOf(9, 1, 3, 1, 1, 4)
	holdFail(t, "the first room", n, []impl.Lit{lit, half}, nil, 0, impl.FailResult{Lits: []impl.Lit{litOf(7, 0, 2, 2, 2, 3, 4, 1), half}, Rerouted: ids(7)})
	// The light may have been on a longer way than it had to: it gets the shortest one.
	far := litOf(7, 0, 2, 0, 1, 3, 2)
	holdFail(t, "a shorter way", n, []impl.Lit{far}, nil, 2, impl.FailResult{Lits: []impl.Lit{litOf(7, 0, 2, 0, 1, 0, 1)}, Rerouted: ids(7)})
	holdFail(t, "the greatest Id", n, []impl.Lit{litOf(math.MaxInt64, 1, 3, 5, 1, 4)}, nil, 4, impl.FailResult{Lits: []impl.Lit{litOf(math.MaxInt64, 1, 3, 0, 1, 0, 3)}, Rerouted: ids(math.MaxInt64)})
}

// TestFailFibreToALateRoute: all routes by the fibre come ahead of the first one without it.
func TestFailFibreToALateRoute(t *testing.T) {
	n := changedNet(manyRoutesNet(1), func(n *impl.Net) { n.Fibres[13].Km = 100000 })
	routes := routesByWords(n, 0, 7, 200).Routes
	late := slices.IndexFunc(routes, func(path []int64) bool { return slices.Contains(path, 13) })
	if late < 30 {
		t.Errorf("the first route by 13 is at %d", late)
	}
	lits := []impl.Lit{litOf(7, 0, 7, 5, 3, routes[0]...)}
	holdFail(t, "late", n, lits, nil, 7, impl.FailResult{Lits: []impl.Lit{litOf(7, 0, 7, 0, 3, routes[late]...)}, Rerouted: ids(7)})
}

func TestFailFibreLost(t *testing.T) {
	lits := thinLits(40)
	all := []int64{}
	for _, lit := range lits {
		all = append(all, lit.Id)
	}
	holdFail(t, "no other way", lineNet(64), lits, nil, 0, impl.FailResult{Lost: all})
	n := squareNet()
	full := []impl.Lit{litOf(1, 0, 3, 0, 5, 3), litOf(7, 0, 2, 3, 2, 0, 1)}
	holdFail(t, "no room", n, full, nil, 0, impl.FailResult{Lits: full[:1], Lost: ids(7)})
	holdFail(t, "room for a thinner one", n, []impl.Lit{full[0], litOf(7, 0, 2, 3, 1, 0, 1)}, nil, 0, impl.FailResult{Lits: []impl.Lit{full[0], litOf(7, 0, 2, 5, 1, 3, 4, 1)}, Rerouted: ids(7)})
	holdFail(t, "beside others", n, append(copyOfLits(full), litOf(8, 1, 0, 0, 3, 0), litOf(9, 2, 3, 0, 6, 2)), nil, 0, impl.FailResult{Lits: []impl.Lit{full[0], litOf(9, 2, 3, 0, 6, 2)}, Lost: ids(7, 8)})
}

// TestFailFibreOneBehindTheOther: the second one meets the first one's new slots, and so on; the old slots of all of them are free.
func TestFailFibreOneBehindTheOther(t *testing.T) {
	n := squareNet()
	three := []impl.Lit{litOf(2, 1, 3, 0, 2, 4), litOf(4, 1, 3, 2, 2, 4), litOf(6, 3, 1, 4, 2, 4)}
	holdFail(t, "beside each other", n, three, nil, 4, impl.FailResult{
		Lits:     []impl.Lit{litOf(2, 1, 3, 0, 2, 0, 3), litOf(4, 1, 3, 2, 2, 0, 3), litOf(6, 3, 1, 0, 2, 2, 1)},
		Rerouted: ids(2, 4, 6),
	})
	wide := []impl.Lit{litOf(3, 0, 3, 0, 2, 3), litOf(8, 1, 2, 4, 2, 1)}
	holdFail(t, "on two ways", n, byId(wide, three...), nil, 4, impl.FailResult{
		Lits:     byId(wide, litOf(2, 1, 3, 2, 2, 0, 3), litOf(4, 1, 3, 4, 2, 0, 3), litOf(6, 3, 1, 0, 2, 2, 1)),
		Rerouted: ids(2, 4, 6),
	})
	narrow := []impl.Lit{litOf(3, 0, 3, 0, 3, 3), litOf(8, 1, 2, 3, 3, 1)}
	holdFail(t, "the last one lost", n, byId(narrow, three...), nil, 4, impl.FailResult{
		Lits:     byId(narrow, litOf(2, 1, 3, 3, 2, 0, 3), litOf(4, 1, 3, 0, 2, 1, 2)),
		Rerouted: ids(2, 4), Lost: ids(6),
	})
	some := []impl.Lit{litOf(3, 0, 3, 0, 5, 3), litOf(8, 1, 2, 2, 4, 1)}
	mixed := []impl.Lit{litOf(2, 1, 3, 0, 3, 4), litOf(4, 1, 3, 3, 1, 4), litOf(6, 3, 1, 4, 2, 4)}
	holdFail(t, "the first one lost", n, byId(some, mixed...), nil, 4, impl.FailResult{
		Lits:     byId(some, litOf(4, 1, 3, 5, 1, 0, 3), litOf(6, 3, 1, 0, 2, 2, 1)),
		Rerouted: ids(4, 6), Lost: ids(2),
	})
	// Both leave the fibre 1, too, and so the first one gets the slots of the one behind it.
	apart := []impl.Lit{litOf(2, 0, 2, 4, 2, 0, 1), litOf(4, 2, 0, 0, 4, 1, 0)}
	holdFail(t, "the slots of one behind", n, apart, nil, 0, impl.FailResult{
		Lits:     []impl.Lit{litOf(2, 0, 2, 0, 2, 3, 4, 1), litOf(4, 2, 0, 2, 4, 1, 4, 3)},
		Rerouted: ids(2, 4),
	})
}

// TestFailFibreAndItsGuards: the slots that a guard's dark light leaves are free; those of its other light are not.
func TestFailFibreAndItsGuards(t *testing.T) {
	n := squareNet()
	lits := []impl.Lit{litOf(5, 1, 0, 4, 2, 0), litOf(10, 0, 2, 0, 4, 0, 1), litOf(11, 0, 2, 0, 4, 3, 2)}
	guards := []impl.Guard{guardOf(10, 11)}
	holdFail(t, "the other's slots", n, lits, guards, 0, impl.FailResult{
		Lits: []impl.Lit{litOf(5, 1, 0, 4, 2, 4, 3), lits[2]}, Switched: ids(10), Rerouted: ids(5),
	})
	holdFail(t, "in no guard", n, lits, nil, 0, impl.FailResult{
		Lits: []impl.Lit{litOf(5, 1, 0, 4, 2, 4, 3), lits[2]}, Rerouted: ids(5), Lost: ids(10),
	})
	free := []impl.Lit{litOf(5, 2, 0, 4, 2, 1, 0), litOf(10, 0, 2, 0, 4, 0, 1), litOf(11, 0, 2, 0, 4, 3, 2)}
	holdFail(t, "the slots left", n, free, guards, 0, impl.FailResult{
		Lits: []impl.Lit{litOf(5, 2, 0, 4, 2, 1, 4, 3), free[2]}, Switched: ids(10), Rerouted: ids(5),
	})
	low := []impl.Lit{litOf(10, 0, 2, 0, 2, 0, 1), litOf(11, 0, 2, 4, 2, 3, 2), litOf(12, 0, 2, 2, 2, 0, 1)}
	holdFail(t, "a lower room", n, low, guards, 0, impl.FailResult{
		Lits: []impl.Lit{low[1], litOf(12, 0, 2, 0, 2, 3, 4, 1)}, Switched: ids(10), Rerouted: ids(12),
	})
}

// holdPromise: each guard has one light of its two, nothing passes the fibre, all else stays or is told.
func holdPromise(t *testing.T, n impl.Net, lits []impl.Lit, guards []impl.Guard, fibre int64) impl.FailResult {
	t.Helper()
	got := impl.FailFibre(n, lits, guards, fibre)
	if code := impl.LitsFault(n, got.Lits); got.Code != impl.OK || code != impl.OK {
		t.Errorf("FailFibre has code %d, its lights %d", got.Code, code)
	}
	for _, lit := range got.Lits {
		if slices.Contains(lit.Path, fibre) {
			t.Errorf("light %d passes fibre %d", lit.Id, fibre)
		}
	}
	for _, guard := range guards {
		_, hasWork := litById(got.Lits, guard.Work)
		_, hasSpare := litById(got.Lits, guard.Spare)
		if !hasWork && !hasSpare || hasWork == slices.Contains(got.Switched, guard.Work) || hasSpare == slices.Contains(got.Bare, guard.Work) {
			t.Errorf("guard %v: Work %v, Spare %v, told as %v and %v", guard, hasWork, hasSpare, got.Switched, got.Bare)
		}
	}
	for _, lit := range lits {
		now, there := litById(got.Lits, lit.Id)
		guarded, dark := slices.Contains(idsOf(guards), lit.Id), slices.Contains(lit.Path, fibre)
		if !dark && fmt.Sprint(now) != fmt.Sprint(lit) {
			t.Errorf("light %v was not on fibre %d, and is %v", lit, fibre, now)
		}
		if slices.Contains(got.Rerouted, lit.Id) != (dark && !guarded && there) || slices.Contains(got.Lost, lit.Id) != (dark && !guarded && !there) {
			t.Errorf("light %v is %v, told as %v and %v", lit, now, got.Rerouted, got.Lost)
		}
		if there && (now.From != lit.From || now.To != lit.To || now.Width != lit.Width) {
			t.Errorf("light %v is another one: %v", lit, now)
		}
	}
	if len(got.Lits)+len(got.Switched)+len(got.Bare)+len(got.Lost) != len(lits) {
		t.Errorf("%d lights, told: %s", len(lits), brief(got))
	}
	return got
}

// TestFailFibreByWords: each fibre of nets that are drawn, with lights and guards.
func TestFailFibreByWords(t *testing.T) {
	draw := numbers{state: 1931}
	switched, bare, rerouted, lost := 0, 0, 0, 0
	for range 120 {
		n := drawnNet(&draw, 3+draw.below(4), 2+draw.below(12), 4+int(draw.below(7)), 40)
		lits := drawnLits(&draw, n, 5+int(draw.below(30)), 3)
		guards := drawnGuards(&draw, lits, draw.below(8))
		for fibre := range int64(len(n.Fibres)) {
			holdFail(t, "drawn", n, lits, guards, fibre, failByWords(n, lits, guards, fibre))
			got := holdPromise(t, n, lits, guards, fibre)
			switched, bare = switched+len(got.Switched), bare+len(got.Bare)
			rerouted, lost = rerouted+len(got.Rerouted), lost+len(got.Lost)
		}
	}
	if switched < 50 || bare < 50 || rerouted < 100 || lost < 100 {
		t.Errorf("%d switched, %d bare, %d rerouted, %d lost", switched, bare, rerouted, lost)
	}
}

// TestAnyCutFibre: guards that were set up, till there is no room, outlive each fibre; a second one may be cut, once the guards that were hit are taken away.
func TestAnyCutFibre(t *testing.T) {
	draw := numbers{state: 1932}
	held := 0
	for range 20 {
		n := drawnNet(&draw, 4+draw.below(5), 8+draw.below(20), 8+int(draw.below(7)), 30)
		lits, guards := []impl.Lit{}, []impl.Guard{}
		for id := int64(1); id < 60; id += 2 {
			need := needOf(id, draw.below(n.Nodes), draw.below(n.Nodes), 1+draw.below(3), 1000)
			if up := impl.GuardUp(n, lits, guards, need); up.Code == impl.OK {
				lits, guards = up.Lits, up.Guards
			} else if up := impl.LightUp(n, lits, need); up.Code == impl.OK {
				lits = up.Lits
			}
		}
		for fibre := range int64(len(n.Fibres)) {
			got := holdPromise(t, n, lits, guards, fibre)
			held += len(got.Switched) + len(got.Bare)
			whole := slices.DeleteFunc(slices.Clone(guards), func(guard impl.Guard) bool {
				return slices.Contains(got.Switched, guard.Work) || slices.Contains(got.Bare, guard.Work)
			})
			for second := range int64(len(n.Fibres)) {
				holdPromise(t, n, got.Lits, whole, second)
			}
		}
	}
	if held < 500 {
		t.Errorf("%d guards were hit", held)
	}
}

// TestFailFibreOfAFullNet: forty lights of which all are dark, in a net of as many routes as there may be.
func TestFailFibreOfAFullNet(t *testing.T) {
	n := manyRoutesNet(9)
	n.Slots = 64
	lits := []impl.Lit{}
	for i := range int64(40) {
		lits = append(lits, litOf(i+1, 5, 7, i, 1, 13))
	}
	holdFail(t, "full", n, lits, nil, 13, failByWords(n, lits, nil, 13))
	wide := []impl.Lit{}
	for i := range int64(8) {
		wide = append(wide, litOf(i+1, 0, 7, 8*i, 8, 2, 9, 13))
	}
	holdFail(t, "wide", n, wide, nil, 9, failByWords(n, wide, nil, 9))
}
