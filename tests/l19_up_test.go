package tests

import (
	"fmt"
	"math"
	"slices"
	"testing"

	"loop.example/g00049/impl"
)

func noGuards(code int64) impl.GuardResult {
	return impl.GuardResult{Code: code}
}

func toldGuards(lits []impl.Lit, guards []impl.Guard) impl.GuardResult {
	return impl.GuardResult{Lits: lits, Guards: guards}
}

// byId puts lights in among others.
func byId(lits []impl.Lit, more ...impl.Lit) []impl.Lit {
	all := copyOfLits(lits)
	for _, lit := range more {
		at := 0
		for at < len(all) && all[at].Id < lit.Id {
			at++
		}
		all = slices.Insert(all, at, lit)
	}
	return all
}

// guardNeedCodeByWords asks all ahead of looking for a pair.
func guardNeedCodeByWords(n impl.Net, lits []impl.Lit, guards []impl.Guard, need impl.Need) int64 {
	if code := guardsCodeByWords(n, lits, guards); code != impl.OK {
		return code
	}
	if len(guards) == 20 || len(lits) > 38 {
		return impl.ErrMany
	}
	if code := needCodeByWords(n, lits, need); code != impl.OK {
		return code
	}
	if _, has := litById(lits, need.Id+1); has || need.Id+1 > 1000000000 {
		return impl.ErrForm
	}
	return impl.OK
}

func guardUpByWords(n impl.Net, lits []impl.Lit, guards []impl.Guard, need impl.Need) impl.GuardResult {
	if code := guardNeedCodeByWords(n, lits, guards, need); code != impl.OK {
		return noGuards(code)
	}
	pair := pairByWords(n, need.From, need.To)
	if pair.Code != impl.OK {
		return noGuards(pair.Code)
	}
	if kmByWords(n, pair.Work) > need.Reach || kmByWords(n, pair.Spare) > need.Reach {
		return noGuards(impl.ErrRange)
	}
	first, second := fitByFree(n, lits, pair.Work, need.Width), fitByFree(n, lits, pair.Spare, need.Width)
	if first < 0 || second < 0 {
		return noGuards(impl.ErrTaken)
	}
	work := litOf(need.Id, need.From, need.To, first, need.Width, pair.Work...)
	spare := litOf(need.Id+1, need.From, need.To, second, need.Width, pair.Spare...)
	return toldGuards(byId(lits, work, spare), append(slices.Clone(guards), guardOf(need.Id, need.Id+1)))
}

func guardDownByWords(n impl.Net, lits []impl.Lit, guards []impl.Guard, work int64) impl.GuardResult {
	if code := guardsCodeByWords(n, lits, guards); code != impl.OK {
		return noGuards(code)
	}
	for at, guard := range guards {
		if guard.Work != work {
			continue
		}
		left := []impl.Lit{}
		for _, lit := range lits {
			if lit.Id != guard.Work && lit.Id != guard.Spare {
				left = append(left, lit)
			}
		}
		return toldGuards(left, append(slices.Clone(guards[:at]), guards[at+1:]...))
	}
	return noGuards(impl.ErrNone)
}

func holdGuardUp(t *testing.T, what string, n impl.Net, lits []impl.Lit, guards []impl.Guard, need impl.Need, want impl.GuardResult) {
	t.Helper()
	ask := func(a netArgs) impl.GuardResult { return impl.GuardUp(a.net, a.lits, a.guards, need) }
	holdNet(t, fmt.Sprint(what, ", GuardUp of ", need), netArgs{net: n, lits: lits, guards: guards}, ask, want)
	if told := guardUpByWords(n, lits, guards, need); fmt.Sprint(told) != fmt.Sprint(want) {
		t.Errorf("%s: the words tell %s of %v, not %s", what, brief(told), need, brief(want))
	}
}

func holdGuardDown(t *testing.T, what string, n impl.Net, lits []impl.Lit, guards []impl.Guard, work int64, want impl.GuardResult) {
	t.Helper()
	ask := func(a netArgs) impl.GuardResult { return impl.GuardDown(a.net, a.lits, a.guards, work) }
	holdNet(t, fmt.Sprint(what, ", GuardDown of ", work), netArgs{net: n, lits: lits, guards: guards}, ask, want)
	if told := guardDownByWords(n, lits, guards, work); fmt.Sprint(told) != fmt.Sprint(want) {
		t.Errorf("%s: the words tell %s of %d, not %s", what, brief(told), work, brief(want))
	}
}

func TestGuardUpTold(t *testing.T) {
	n := squareNet()
	work, spare := litOf(1, 0, 2, 0, 2, 0, 1), litOf(2, 0, 2, 0, 2, 3, 2)
	holdGuardUp(t, "the first guard", n, nil, nil, needOf(1, 0, 2, 2, 70), toldGuards([]impl.Lit{work, spare}, []impl.Guard{guardOf(1, 2)}))
	holdGuardUp(t, "the other way", n, []impl.Lit{}, []impl.Guard{}, needOf(7, 2, 0, 6, 70), toldGuards([]impl.Lit{litOf(7, 2, 0, 0, 6, 1, 0), litOf(8, 2, 0, 0, 6, 2, 3)}, []impl.Guard{guardOf(7, 8)}))
	both := []impl.Lit{work, spare}
	more := []impl.Lit{litOf(3, 1, 0, 2, 3, 0), litOf(4, 1, 0, 2, 3, 4, 3)}
	holdGuardUp(t, "a second guard", n, both, []impl.Guard{guardOf(1, 2)}, needOf(3, 1, 0, 3, 45), toldGuards(append(copyOfLits(both), more...), []impl.Guard{guardOf(1, 2), guardOf(3, 4)}))
	holdGuardUp(t, "no guard of those there", n, both, nil, needOf(3, 1, 0, 3, 45), toldGuards(append(copyOfLits(both), more...), []impl.Guard{guardOf(3, 4)}))
	holdGuardUp(t, "the trap", trapNet(), nil, nil, needOf(1, 0, 3, 1, 5), toldGuards([]impl.Lit{litOf(1, 0, 3, 0, 1, 0, 4), litOf(2, 0, 3, 0, 1, 3, 2)}, []impl.Guard{guardOf(1, 2)}))
}

// TestGuardUpOfFirstRooms: each of the two lies at the first room of its own path.
func TestGuardUpOfFirstRooms(t *testing.T) {
	n := squareNet()
	onWork := litOf(5, 1, 2, 1, 1, 1)
	onSpare := litOf(9, 2, 3, 0, 3, 2)
	holdGuardUp(t, "the Work's room", n, []impl.Lit{onWork}, nil, needOf(7, 0, 2, 2, 70), toldGuards([]impl.Lit{onWork, litOf(7, 0, 2, 2, 2, 0, 1), litOf(8, 0, 2, 0, 2, 3, 2)}, []impl.Guard{guardOf(7, 8)}))
	holdGuardUp(t, "the Spare's room", n, []impl.Lit{onSpare}, nil, needOf(7, 0, 2, 2, 70), toldGuards([]impl.Lit{litOf(7, 0, 2, 0, 2, 0, 1), litOf(8, 0, 2, 3, 2, 3, 2), onSpare}, []impl.Guard{guardOf(7, 8)}))
	holdGuardUp(t, "both rooms", n, []impl.Lit{onWork, onSpare}, nil, needOf(7, 0, 2, 2, 70), toldGuards([]impl.Lit{onWork, litOf(7, 0, 2, 2, 2, 0, 1), litOf(8, 0, 2, 3, 2, 3, 2), onSpare}, []impl.Guard{guardOf(7, 8)}))
	holdGuardUp(t, "a thin one", n, []impl.Lit{onWork, onSpare}, nil, needOf(7, 0, 2, 1, 70), toldGuards([]impl.Lit{onWork, litOf(7, 0, 2, 0, 1, 0, 1), litOf(8, 0, 2, 3, 1, 3, 2), onSpare}, []impl.Guard{guardOf(7, 8)}))
}

// TestGuardUpPlaces: the lights stand by Id, the guard behind the others.
func TestGuardUpPlaces(t *testing.T) {
	n := triangleNet(64)
	lits := []impl.Lit{litOf(3, 0, 1, 0, 1, 0), litOf(6, 0, 1, 0, 1, 2, 1), litOf(40, 0, 1, 1, 1, 0), litOf(41, 0, 1, 1, 1, 2, 1)}
	guards := []impl.Guard{guardOf(41, 40), guardOf(6, 3)}
	for _, id := range []int64{1, 4, 7, 8, 20, 38, 42, 1000, 999999998, 999999999} {
		work, spare := litOf(id, 0, 1, 2, 5, 0), litOf(id+1, 0, 1, 2, 5, 2, 1)
		want := toldGuards(byId(lits, work, spare), append(slices.Clone(guards), guardOf(id, id+1)))
		holdGuardUp(t, "places", n, lits, guards, needOf(id, 0, 1, 5, 50), want)
	}
}

func TestGuardUpOfIds(t *testing.T) {
	n, lits, guards := squareNet(), guardedLits(), twoGuards()
	for _, id := range []int64{0, -1, -2, math.MinInt64, math.MinInt64 + 1, 1000000001, 1<<32 + 1, math.MaxInt64 - 1, math.MaxInt64, 5, 10, 11, 20, 21, 30} {
		holdGuardUp(t, "wrong Id", n, lits, guards, needOf(id, 0, 1, 1, 1000), noGuards(impl.ErrForm))
	}
	for _, id := range []int64{4, 9, 19, 29, 1000000000} {
		holdGuardUp(t, "the next one", n, lits, guards, needOf(id, 0, 1, 1, 1000), noGuards(impl.ErrForm))
		holdGuardUp(t, "the next one, width", n, lits, guards, needOf(id, 0, 1, 0, 1000), noGuards(impl.ErrRange))
		holdGuardUp(t, "the next one, reach", n, lits, guards, needOf(id, 0, 1, 1, 0), noGuards(impl.ErrRange))
		holdGuardUp(t, "the next one, too far", n, lits, guards, needOf(id, 0, 1, 1, 1), noGuards(impl.ErrForm))
		holdGuardUp(t, "the next one, no room", n, lits, guards, needOf(id, 0, 1, 6, 1000), noGuards(impl.ErrForm))
	}
	holdGuardUp(t, "the next one, no pair", netOf(2, 4), nil, nil, needOf(1000000000, 0, 1, 1, 1), noGuards(impl.ErrForm))
	great := []impl.Lit{litOf(1000000001, 0, 1, 0, 6, 0), litOf(math.MaxInt64, 1, 2, 0, 6, 1)}
	holdGuardUp(t, "greater ones there", n, great, nil, needOf(1000000000, 1, 3, 1, 1000), noGuards(impl.ErrForm))
	holdGuardUp(t, "greater ones in the way", n, great, nil, needOf(999999999, 1, 3, 1, 1000), noGuards(impl.ErrTaken))
	want := []impl.Lit{litOf(999999999, 1, 3, 0, 1, 4), litOf(1000000000, 1, 3, 0, 1, 0, 3), great[1]}
	holdGuardUp(t, "below a greater one", n, great[1:], nil, needOf(999999999, 1, 3, 1, 1000), toldGuards(want, []impl.Guard{guardOf(999999999, 1000000000)}))
}

func TestGuardUpOfWrongNeeds(t *testing.T) {
	n, lits, guards := squareNet(), guardedLits(), twoGuards()
	for _, end := range []int64{-1, 4, 5, 8, 1 << 32, math.MaxInt64, math.MinInt64, math.MinInt64 + 1} {
		for _, id := range []int64{1, 4, 1000000000} {
			holdGuardUp(t, "from", n, lits, guards, needOf(id, end, 1, 1, 1000), noGuards(impl.ErrForm))
			holdGuardUp(t, "to", n, lits, guards, needOf(id, 1, end, 0, 0), noGuards(impl.ErrForm))
			holdGuardUp(t, "both", n, lits, guards, needOf(id, end, end, 0, 1000), noGuards(impl.ErrForm))
		}
	}
	for node := range int64(4) {
		holdGuardUp(t, "the same", n, lits, guards, needOf(1, node, node, 1, 1000), noGuards(impl.ErrForm))
		holdGuardUp(t, "the same and width", n, lits, guards, needOf(1, node, node, 0, 0), noGuards(impl.ErrForm))
	}
	for _, width := range []int64{0, -1, 7, 8, 64, 65, 1 << 32, 1<<32 + 1, math.MaxInt64, math.MinInt64, math.MinInt64 + 1} {
		holdGuardUp(t, "width", n, lits, guards, needOf(1, 2, 3, width, 1000), noGuards(impl.ErrRange))
		holdGuardUp(t, "width, no pair", netOf(2, 6), nil, nil, needOf(1, 0, 1, width, 1000), noGuards(impl.ErrRange))
	}
	for _, reach := range []int64{0, -1, -1000, math.MinInt64, math.MinInt64 + 1} {
		holdGuardUp(t, "reach", n, lits, guards, needOf(1, 2, 3, 1, reach), noGuards(impl.ErrRange))
		holdGuardUp(t, "reach, no pair", netOf(2, 6), nil, nil, needOf(1, 0, 1, 1, reach), noGuards(impl.ErrRange))
	}
	holdGuardUp(t, "nothing", n, lits, guards, impl.Need{}, noGuards(impl.ErrForm))
}

func TestGuardUpWithoutAPair(t *testing.T) {
	for what, n := range map[string]impl.Net{
		"no fibre":  netOf(3, 4),
		"no route":  netOf(3, 4, fibreOf(0, 1, 1)),
		"one route": netOf(3, 4, fibreOf(0, 1, 1), fibreOf(1, 2, 1)),
	} {
		for _, reach := range []int64{1, 2, 1000, math.MaxInt64} {
			holdGuardUp(t, what, n, nil, nil, needOf(1, 0, 2, 4, reach), noGuards(impl.ErrNone))
		}
	}
	full := netOf(2, 4, fibreOf(0, 1, 1))
	holdGuardUp(t, "one route, full", full, []impl.Lit{litOf(5, 0, 1, 0, 4, 0)}, nil, needOf(1, 0, 1, 4, 1), noGuards(impl.ErrNone))
}

// TestGuardUpWithinReach: where the Spare of the best pair is too long, no other pair is asked.
func TestGuardUpWithinReach(t *testing.T) {
	n := squareNet()
	for _, reach := range []int64{1, 29, 30, 31, 69} {
		holdGuardUp(t, "too far", n, nil, nil, needOf(1, 0, 2, 1, reach), noGuards(impl.ErrRange))
		full := []impl.Lit{litOf(9, 0, 2, 0, 6, 0, 1), litOf(10, 2, 0, 0, 6, 2, 3)}
		holdGuardUp(t, "too far and full", n, full, nil, needOf(1, 0, 2, 1, reach), noGuards(impl.ErrRange))
	}
	for _, reach := range []int64{70, 71, 100000, 1 << 32, math.MaxInt64} {
		want := toldGuards([]impl.Lit{litOf(1, 0, 2, 0, 1, 0, 1), litOf(2, 0, 2, 0, 1, 3, 2)}, []impl.Guard{guardOf(1, 2)})
		holdGuardUp(t, "within", n, nil, nil, needOf(1, 0, 2, 1, reach), want)
	}
	// The best pair is of 3 km and 6 km; another one is of 5 km and 5 km.
	long := trapNet(fibreOf(0, 3, 6))
	holdGuardUp(t, "another pair would be within", long, nil, nil, needOf(1, 0, 3, 1, 5), noGuards(impl.ErrRange))
	holdGuardUp(t, "the best pair within", long, nil, nil, needOf(1, 0, 3, 1, 6), toldGuards([]impl.Lit{litOf(1, 0, 3, 0, 1, 0, 1, 2), litOf(2, 0, 3, 0, 1, 5)}, []impl.Guard{guardOf(1, 2)}))
}

// TestGuardUpWithoutRoom: on one of the two it is as on both, whatever room other routes have.
func TestGuardUpWithoutRoom(t *testing.T) {
	n := threeWaysNet()
	for width := int64(1); width <= 6; width++ {
		onWork := []impl.Lit{litOf(9, 0, 3, 0, 7-width, 0)}
		onSpare := []impl.Lit{litOf(9, 1, 4, 0, 7-width, 3)}
		onBoth := []impl.Lit{litOf(9, 0, 4, 0, 7-width, 0, 1), litOf(10, 4, 0, 0, 7-width, 3, 2)}
		onThird := []impl.Lit{litOf(9, 0, 4, 0, 6, 4, 5)}
		for _, lits := range [][]impl.Lit{onWork, onSpare, onBoth} {
			holdGuardUp(t, "no room", n, lits, nil, needOf(1, 0, 4, width, 1000), noGuards(impl.ErrTaken))
			if width > 1 {
				holdGuardUp(t, "just room", n, lits, nil, needOf(1, 0, 4, width-1, 1000), guardUpByWords(n, lits, nil, needOf(1, 0, 4, width-1, 1000)))
			}
		}
		want := []impl.Lit{litOf(1, 0, 4, 0, width, 0, 1), litOf(2, 0, 4, 0, width, 2, 3), onThird[0]}
		holdGuardUp(t, "room on both", n, onThird, nil, needOf(1, 0, 4, width, 3), toldGuards(want, []impl.Guard{guardOf(1, 2)}))
	}
}

// TestGuardUpOfMany: too many are told ahead of all that is wrong with the need, behind all that is wrong with the others.
func TestGuardUpOfMany(t *testing.T) {
	n := triangleNet(64)
	needs := []impl.Need{needOf(99, 0, 1, 1, 1000), needOf(0, 0, 1, 1, 1000), needOf(2, 0, 1, 1, 1000), needOf(99, 0, 9, 1, 1000), needOf(99, 0, 1, 0, 1000), needOf(99, 0, 1, 1, 0), needOf(99, 0, 1, 1, 1), needOf(99, 0, 1, 64, 1000), needOf(1000000000, 0, 1, 1, 1000), {}}
	lits, guards := thinGuarded(20)
	for _, need := range needs {
		holdGuardUp(t, "twenty guards", n, lits, guards, need, noGuards(impl.ErrMany))
		holdGuardUp(t, "forty lights", n, lits, guards[:19], need, noGuards(impl.ErrMany))
		holdGuardUp(t, "forty lights, no guard", n, lits, nil, need, noGuards(impl.ErrMany))
		holdGuardUp(t, "thirty-nine lights", n, lits[:39], guards[:19], need, noGuards(impl.ErrMany))
		holdGuardUp(t, "thirty-nine lights, one guard", n, lits[:39], guards[3:4], need, noGuards(impl.ErrMany))
		holdGuardUp(t, "twenty-one guards", n, lits, append(slices.Clone(guards), guardOf(1, 2)), need, noGuards(impl.ErrMany))
		holdGuardUp(t, "twenty guards, one wrong", n, lits, append(slices.Clone(guards[:19]), guardOf(39, 2)), need, noGuards(impl.ErrForm))
		holdGuardUp(t, "twenty guards, one of none", n, lits, append(slices.Clone(guards[:19]), guardOf(39, 41)), need, noGuards(impl.ErrNone))
		holdGuardUp(t, "forty lights, one wrong", n, changedLits(lits, func(l []impl.Lit) { l[39].First = 18 }), guards, need, noGuards(impl.ErrTaken))
		if need.Id == 99 {
			continue
		}
		holdGuardUp(t, "thirty-eight lights", n, lits[:38], guards[:19], need, noGuards(impl.ErrForm))
	}
	last := []impl.Lit{litOf(99, 0, 1, 19, 45, 0), litOf(100, 0, 1, 19, 45, 2, 1)}
	for _, count := range []int{0, 1, 18, 19} {
		want := toldGuards(byId(lits[:38], last...), append(slices.Clone(guards[:count]), guardOf(99, 100)))
		holdGuardUp(t, "as many as may be", n, lits[:38], guards[:count], needOf(99, 0, 1, 45, 50), want)
	}
	holdGuardUp(t, "no room for the last", n, lits[:38], guards[:19], needOf(99, 0, 1, 46, 50), noGuards(impl.ErrTaken))
}

// wrongGuards have a fault each, of the guarded lights.
func wrongGuards() map[string][]impl.Guard {
	return map[string][]impl.Guard{
		"no light":   {guardOf(10, 12)},
		"the same":   {guardOf(10, 10)},
		"one ahead":  append(twoGuards(), guardOf(11, 10)),
		"the ends":   {guardOf(10, 21)},
		"too many":   make([]impl.Guard, 21),
		"the second": {guardOf(10, 11), guardOf(0, 20)},
	}
}

// TestGuardsUpAndDownOfFaults: what is wrong with the net, the lights and the guards comes ahead of all else.
func TestGuardsUpAndDownOfFaults(t *testing.T) {
	values := []impl.Need{needOf(1, 0, 1, 1, 1000), needOf(0, 2, 2, 0, 0), needOf(10, 2, 3, 7, 1), needOf(1, 2, 3, 0, 1), needOf(1, 2, 3, 1, 1), needOf(1000000000, 0, 1, 1, 1000)}
	for _, need := range values {
		for what, guards := range wrongGuards() {
			code := guardsCodeByWords(squareNet(), guardedLits(), guards)
			holdGuardUp(t, what, squareNet(), guardedLits(), guards, need, noGuards(code))
			holdGuardDown(t, what, squareNet(), guardedLits(), guards, need.Id, noGuards(code))
		}
		for _, guards := range [][]impl.Guard{nil, {guardOf(3, 5)}, make([]impl.Guard, 21)} {
			for what, lits := range wrongLits() {
				holdGuardUp(t, what, squareNet(), lits, guards, need, noGuards(litsCodeByWords(squareNet(), lits)))
				holdGuardDown(t, what, squareNet(), lits, guards, need.Id, noGuards(litsCodeByWords(squareNet(), lits)))
			}
			for what, n := range wrongNets() {
				holdGuardUp(t, what, n, guardedLits(), guards, need, noGuards(netCodeByWords(n)))
				holdGuardUp(t, what, n, nil, guards, need, noGuards(netCodeByWords(n)))
				holdGuardDown(t, what, n, thinLits(41), guards, need.Id, noGuards(netCodeByWords(n)))
			}
		}
		holdGuardUp(t, "the need alone", squareNet(), guardedLits(), twoGuards(), need, guardUpByWords(squareNet(), guardedLits(), twoGuards(), need))
	}
}

func TestGuardDownTold(t *testing.T) {
	n, lits := squareNet(), guardedLits()
	holdGuardDown(t, "the first", n, lits, twoGuards(), 21, toldGuards([]impl.Lit{lits[0], lits[1], lits[2], lits[5]}, []impl.Guard{guardOf(10, 11)}))
	holdGuardDown(t, "the last", n, lits, twoGuards(), 10, toldGuards([]impl.Lit{lits[0], lits[3], lits[4], lits[5]}, []impl.Guard{guardOf(21, 20)}))
	holdGuardDown(t, "the only one", n, lits, twoGuards()[:1], 21, toldGuards([]impl.Lit{lits[0], lits[1], lits[2], lits[5]}, nil))
	holdGuardDown(t, "the only one, and no other light", n, lits[1:3], twoGuards()[1:], 10, toldGuards(nil, nil))
	for _, id := range append(noIds(), 5, 11, 20, 30) {
		holdGuardDown(t, "no Work", n, lits, twoGuards(), id, noGuards(impl.ErrNone))
	}
	for _, id := range []int64{5, 10, 11, 20, 21, 30} {
		holdGuardDown(t, "no guard", n, lits, nil, id, noGuards(impl.ErrNone))
		holdGuardDown(t, "nothing", netOf(1, 1), nil, []impl.Guard{}, id, noGuards(impl.ErrNone))
	}
	all, guards := thinGuarded(20)
	for id := range int64(43) {
		holdGuardDown(t, "twenty", triangleNet(64), all, guards, id, guardDownByWords(triangleNet(64), all, guards, id))
	}
}

// TestGuardsOfSharedPaths: lights that were handed in with one path for two of them are told with a path each.
func TestGuardsOfSharedPaths(t *testing.T) {
	n, path := squareNet(), []int64{0, 1}
	lits := []impl.Lit{litOf(10, 0, 2, 0, 1, path...), litOf(11, 0, 2, 0, 1, 3, 2), litOf(12, 0, 2, 1, 1, path...), litOf(13, 0, 2, 2, 1, path...)}
	guards := []impl.Guard{guardOf(12, 11)}
	holdGuardUp(t, "shared", n, lits, guards, needOf(1, 0, 2, 1, 70), guardUpByWords(n, lits, guards, needOf(1, 0, 2, 1, 70)))
	holdGuardDown(t, "shared", n, lits, guards, 12, guardDownByWords(n, lits, guards, 12))
	for fibre := range int64(5) {
		holdFail(t, "shared", n, lits, guards, fibre, failByWords(n, lits, guards, fibre))
	}
}

// TestGuardsUpAndDown: step by step by the words; what was set up and taken down again is what was.
func TestGuardsUpAndDown(t *testing.T) {
	draw := numbers{state: 1920}
	codes := map[int64]int{}
	for range 50 {
		n := drawnNet(&draw, 3+draw.below(4), 6+draw.below(12), 3+int(draw.below(9)), 40)
		lits := drawnLits(&draw, n, 4, 2)
		guards := []impl.Guard{}
		for range 30 {
			if draw.below(5) == 0 && len(guards) > 0 {
				work := guards[draw.below(int64(len(guards)))].Work + draw.below(3)/2
				want := guardDownByWords(n, lits, guards, work)
				holdGuardDown(t, "drawn", n, lits, guards, work, want)
				if want.Code == impl.OK {
					lits, guards = want.Lits, want.Guards
				}
				continue
			}
			need := drawnNeed(&draw, n)
			want := guardUpByWords(n, lits, guards, need)
			codes[want.Code]++
			holdGuardUp(t, "drawn", n, lits, guards, need, want)
			if want.Code != impl.OK {
				continue
			}
			if code := impl.GuardsFault(n, want.Lits, want.Guards); code != impl.OK {
				t.Errorf("the guards that were set up have code %d", code)
			}
			holdGuardDown(t, "what was set up", n, want.Lits, want.Guards, need.Id, toldGuards(lits, guards))
			lits, guards = want.Lits, want.Guards
		}
	}
	if codes[impl.OK] < 100 || codes[impl.ErrForm] < 100 || codes[impl.ErrRange] < 50 || codes[impl.ErrNone] < 10 || codes[impl.ErrTaken] < 100 {
		t.Errorf("codes told: %v", codes)
	}
}
