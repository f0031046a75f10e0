package tests

import (
	"math"
	"slices"
	"testing"

	"loop.example/g00049/impl"
)

func guardOf(work int64, spare int64) impl.Guard {
	return impl.Guard{Work: work, Spare: spare}
}

// litById is the light of that Id; false, if none has it.
func litById(lits []impl.Lit, id int64) (impl.Lit, bool) {
	for _, lit := range lits {
		if lit.Id == id {
			return lit, true
		}
	}
	return impl.Lit{}, false
}

// idsOf are the Works and Spares of the guards.
func idsOf(guards []impl.Guard) []int64 {
	ids := []int64{}
	for _, guard := range guards {
		ids = append(ids, guard.Work, guard.Spare)
	}
	return ids
}

// guardCodeByWords is of one guard, behind those ahead of it.
func guardCodeByWords(lits []impl.Lit, ahead []impl.Guard, guard impl.Guard) int64 {
	work, hasWork := litById(lits, guard.Work)
	spare, hasSpare := litById(lits, guard.Spare)
	taken := idsOf(ahead)
	switch {
	case !hasWork, !hasSpare:
		return impl.ErrNone
	case guard.Work == guard.Spare:
		return impl.ErrForm
	case slices.Contains(taken, guard.Work), slices.Contains(taken, guard.Spare):
		return impl.ErrForm
	case work.From != spare.From, work.To != spare.To:
		return impl.ErrForm
	case haveFibreInCommon(work.Path, spare.Path):
		return impl.ErrForm
	}
	return impl.OK
}

func guardsCodeByWords(n impl.Net, lits []impl.Lit, guards []impl.Guard) int64 {
	if code := litsCodeByWords(n, lits); code != impl.OK {
		return code
	}
	if len(guards) > 20 {
		return impl.ErrMany
	}
	for i, guard := range guards {
		if code := guardCodeByWords(lits, guards[:i], guard); code != impl.OK {
			return code
		}
	}
	return impl.OK
}

// guardedLits lie on the square net: 10 and 11 are one guard's, 21 and 20 another's, 5 and 30 in none.
func guardedLits() []impl.Lit {
	return []impl.Lit{
		litOf(5, 3, 1, 1, 2, 4), litOf(10, 0, 2, 0, 2, 0, 1), litOf(11, 0, 2, 0, 2, 3, 2),
		litOf(20, 1, 3, 2, 1, 0, 3), litOf(21, 1, 3, 0, 1, 4), litOf(30, 2, 0, 3, 2, 2, 3),
	}
}

func twoGuards() []impl.Guard {
	return []impl.Guard{guardOf(21, 20), guardOf(10, 11)}
}

// triangleNet has two ways from 0 to 1: the fibre 0, and 2 and 1.
func triangleNet(slots int64) impl.Net {
	return netOf(3, slots, fibreOf(0, 1, 10), fibreOf(1, 2, 20), fibreOf(0, 2, 30))
}

// thinGuarded are so many guards of lights of one slot each on the triangle, the Works by odd Ids.
func thinGuarded(count int64) ([]impl.Lit, []impl.Guard) {
	lits, guards := []impl.Lit{}, []impl.Guard{}
	for i := range count {
		lits = append(lits, litOf(2*i+1, 0, 1, i, 1, 0), litOf(2*i+2, 0, 1, i, 1, 2, 1))
		guards = append(guards, guardOf(2*i+1, 2*i+2))
	}
	return lits, guards
}

func holdGuards(t *testing.T, what string, n impl.Net, lits []impl.Lit, guards []impl.Guard, want int64) {
	t.Helper()
	ask := func(a netArgs) int64 { return impl.GuardsFault(a.net, a.lits, a.guards) }
	holdNet(t, what+", GuardsFault", netArgs{net: n, lits: lits, guards: guards}, ask, want)
	if told := guardsCodeByWords(n, lits, guards); told != want {
		t.Errorf("%s: the words tell %d of %s, not %d", what, told, brief(guards), want)
	}
}

// holdGuardsByWords has the words tell the code, and hands it on.
func holdGuardsByWords(t *testing.T, what string, n impl.Net, lits []impl.Lit, guards []impl.Guard) int64 {
	t.Helper()
	code := guardsCodeByWords(n, lits, guards)
	holdGuards(t, what, n, lits, guards, code)
	return code
}

// noIds are numbers that are no Id of the guarded lights.
func noIds() []int64 {
	return []int64{0, -1, -10, 1, 4, 6, 9, 12, 19, 22, 29, 31, 1 << 32, 1<<32 + 10, math.MaxInt64, math.MinInt64, math.MinInt64 + 10}
}

func TestGuardsFaultTold(t *testing.T) {
	n, lits := squareNet(), guardedLits()
	holdGuards(t, "nil", n, lits, nil, impl.OK)
	holdGuards(t, "none", n, lits, []impl.Guard{}, impl.OK)
	holdGuards(t, "nothing at all", netOf(1, 1), nil, nil, impl.OK)
	holdGuards(t, "two", n, lits, twoGuards(), impl.OK)
	holdGuards(t, "the other way about", n, lits, []impl.Guard{guardOf(11, 10), guardOf(20, 21)}, impl.OK)
	for at := range 2 {
		holdGuards(t, "one", n, lits, twoGuards()[at:at+1], impl.OK)
	}
	unlike := changedLits(lits, func(l []impl.Lit) { l[2].First, l[2].Width = 0, 1 })
	holdGuards(t, "another width", n, unlike, twoGuards(), impl.OK)
	holdGuards(t, "an empty guard", n, lits, make([]impl.Guard, 1), impl.ErrNone)
	great := changedLits(lits, func(l []impl.Lit) { l[5] = litOf(math.MaxInt64, 3, 1, 3, 2, 2, 1) })
	holdGuards(t, "the greatest Id", n, great, []impl.Guard{guardOf(math.MaxInt64, 5)}, impl.OK)
}

func TestGuardsFaultOfMany(t *testing.T) {
	n := triangleNet(64)
	for count := range int64(21) {
		lits, guards := thinGuarded(count)
		holdGuards(t, "guards", n, lits, guards, impl.OK)
	}
	lits, guards := thinGuarded(20)
	more := append(slices.Clone(guards), guardOf(1, 2))
	holdGuards(t, "one more", n, lits, more, impl.ErrMany)
	holdGuards(t, "one more, no light", n, nil, more, impl.ErrMany)
	holdGuards(t, "far too many", n, lits, make([]impl.Guard, 1000), impl.ErrMany)
	holdGuards(t, "twenty empty ones", n, lits, make([]impl.Guard, 20), impl.ErrNone)
	holdGuards(t, "twenty-one empty ones", n, lits, make([]impl.Guard, 21), impl.ErrMany)
	for at := range 20 {
		wrong := slices.Clone(guards)
		wrong[at].Spare = 1
		holdGuardsByWords(t, "one wrong", n, lits, wrong)
	}
}

func TestGuardsFaultOfWrongLights(t *testing.T) {
	lists := [][]impl.Guard{nil, twoGuards(), {guardOf(3, 5)}, {guardOf(0, 0)}, make([]impl.Guard, 21)}
	for _, guards := range lists {
		for what, lits := range wrongLits() {
			holdGuards(t, what, squareNet(), lits, guards, litsCodeByWords(squareNet(), lits))
		}
		for what, n := range wrongNets() {
			holdGuards(t, what, n, nil, guards, netCodeByWords(n))
			holdGuards(t, what, n, guardedLits(), guards, netCodeByWords(n))
			holdGuards(t, what, n, thinLits(41), guards, netCodeByWords(n))
		}
	}
}

// TestGuardsFaultOfNoLight: as the Work, as the Spare and as both, in the first guard and in the second.
func TestGuardsFaultOfNoLight(t *testing.T) {
	n, lits := squareNet(), guardedLits()
	for _, none := range noIds() {
		for at := range 2 {
			for _, wrong := range []impl.Guard{guardOf(none, twoGuards()[at].Spare), guardOf(twoGuards()[at].Work, none), guardOf(none, none)} {
				guards := twoGuards()
				guards[at] = wrong
				holdGuards(t, "no light", n, lits, guards, impl.ErrNone)
				holdGuards(t, "no light, alone", n, lits, []impl.Guard{wrong}, impl.ErrNone)
				holdGuards(t, "no light at all", n, nil, []impl.Guard{wrong}, impl.ErrNone)
			}
		}
	}
}

func TestGuardsFaultOfTheSameLight(t *testing.T) {
	n, lits := squareNet(), guardedLits()
	for _, lit := range lits {
		holdGuards(t, "both the same", n, lits, []impl.Guard{guardOf(lit.Id, lit.Id)}, impl.ErrForm)
	}
	for at := range 2 {
		guards := twoGuards()
		guards[at].Spare = guards[at].Work
		holdGuards(t, "both the same", n, lits, guards, impl.ErrForm)
	}
}

// TestGuardsFaultOfAGuardAhead: neighbours or not, each of the two as Work and as Spare, beside a light that would go with it.
func TestGuardsFaultOfAGuardAhead(t *testing.T) {
	n := triangleNet(64)
	lits, guards := thinGuarded(5)
	all := append(slices.Clone(lits), litOf(50, 0, 1, 5, 1, 0), litOf(51, 0, 1, 5, 1, 2, 1))
	for at := range 5 {
		work, spare := guards[at].Work, guards[at].Spare
		for _, wrong := range []impl.Guard{guardOf(work, 51), guardOf(51, work), guardOf(spare, 50), guardOf(50, spare), guardOf(work, spare), guardOf(spare, work)} {
			holdGuards(t, "behind", n, all, append(slices.Clone(guards), wrong), impl.ErrForm)
			holdGuards(t, "one between", n, all, append(slices.Clone(guards), guardOf(50, 51), wrong), impl.ErrForm)
			holdGuards(t, "alone", n, all, []impl.Guard{wrong}, impl.OK)
			others := slices.Delete(slices.Clone(guards), at, at+1)
			holdGuards(t, "behind the others", n, all, append(others, wrong), impl.OK)
			holdGuards(t, "ahead of the others", n, all, append([]impl.Guard{wrong}, others...), impl.OK)
			holdGuards(t, "ahead", n, all, append([]impl.Guard{wrong}, guards...), impl.ErrForm)
		}
	}
}

func TestGuardsFaultOfUnlikeEnds(t *testing.T) {
	n := netOf(4, 4, fibreOf(0, 1, 1), fibreOf(0, 2, 1), fibreOf(1, 3, 1), fibreOf(2, 3, 1), fibreOf(0, 3, 1))
	work := litOf(1, 0, 3, 0, 1, 4)
	for _, spare := range []impl.Lit{litOf(2, 0, 3, 0, 1, 0, 2), litOf(2, 0, 3, 0, 1, 1, 3), litOf(2, 0, 3, 3, 1, 1, 3)} {
		holdGuards(t, "alike", n, []impl.Lit{work, spare}, []impl.Guard{guardOf(1, 2)}, impl.OK)
	}
	for _, spare := range []impl.Lit{litOf(2, 1, 3, 0, 1, 2), litOf(2, 2, 3, 0, 1, 3), litOf(2, 0, 1, 0, 1, 0), litOf(2, 0, 2, 0, 1, 1), litOf(2, 3, 0, 0, 1, 3, 1), litOf(2, 1, 2, 0, 1, 0, 1)} {
		holdGuards(t, "unlike", n, []impl.Lit{work, spare}, []impl.Guard{guardOf(1, 2)}, impl.ErrForm)
		holdGuards(t, "unlike, turned about", n, []impl.Lit{work, spare}, []impl.Guard{guardOf(2, 1)}, impl.ErrForm)
	}
}

// TestGuardsFaultOfACommonFibre: the first, a middle and the last one of a path.
func TestGuardsFaultOfACommonFibre(t *testing.T) {
	first := netOf(4, 4, fibreOf(0, 1, 1), fibreOf(1, 3, 1), fibreOf(1, 2, 1), fibreOf(2, 3, 1))
	there := []impl.Lit{litOf(1, 0, 3, 0, 1, 0, 1), litOf(2, 0, 3, 1, 1, 0, 2, 3)}
	back := []impl.Lit{litOf(1, 3, 0, 0, 1, 1, 0), litOf(2, 3, 0, 1, 1, 3, 2, 0)}
	middle := netOf(6, 4, fibreOf(0, 1, 1), fibreOf(0, 2, 1), fibreOf(1, 2, 1), fibreOf(1, 3, 1), fibreOf(2, 4, 1), fibreOf(3, 4, 1), fibreOf(2, 3, 1))
	across := []impl.Lit{litOf(1, 0, 3, 0, 1, 0, 2, 6), litOf(2, 0, 3, 1, 1, 1, 2, 3), litOf(3, 0, 3, 2, 1, 1, 4, 5), litOf(4, 0, 3, 3, 1, 0, 3)}
	twins := []impl.Lit{litOf(1, 0, 3, 0, 1, 0, 1), litOf(2, 0, 3, 1, 1, 0, 1)}
	for _, guard := range []impl.Guard{guardOf(1, 2), guardOf(2, 1)} {
		holdGuards(t, "the first", first, there, []impl.Guard{guard}, impl.ErrForm)
		holdGuards(t, "the last", first, back, []impl.Guard{guard}, impl.ErrForm)
		holdGuards(t, "a middle one", middle, across, []impl.Guard{guard}, impl.ErrForm)
		holdGuards(t, "all", first, twins, []impl.Guard{guard}, impl.ErrForm)
	}
	holdGuards(t, "a node alone", middle, across, []impl.Guard{guardOf(1, 3)}, impl.OK)
	holdGuards(t, "nothing", middle, across, []impl.Guard{guardOf(4, 3)}, impl.OK)
}

// TestGuardsFaultsInTheirOrder: guard by guard, and in each guard the lights that there are not first.
func TestGuardsFaultsInTheirOrder(t *testing.T) {
	n, lits := squareNet(), guardedLits()
	holdGuards(t, "no light, one ahead", n, lits, append(twoGuards(), guardOf(10, 99)), impl.ErrNone)
	holdGuards(t, "no light, one ahead", n, lits, append(twoGuards(), guardOf(99, 10)), impl.ErrNone)
	holdGuards(t, "the same no light", n, lits, []impl.Guard{guardOf(99, 99)}, impl.ErrNone)
	holdGuards(t, "the first guard's", n, lits, []impl.Guard{guardOf(10, 10), guardOf(99, 20)}, impl.ErrForm)
	holdGuards(t, "the first guard's", n, lits, []impl.Guard{guardOf(99, 20), guardOf(10, 10)}, impl.ErrNone)
	holdGuards(t, "unlike ends first", n, lits, []impl.Guard{guardOf(10, 5), guardOf(99, 20)}, impl.ErrForm)
	ids := []int64{5, 10, 11, 20, 21, 30, 99, 0}
	codes := map[int64]int{}
	for _, a := range ids {
		for _, b := range ids {
			for _, c := range ids {
				for _, d := range ids {
					guards := []impl.Guard{guardOf(a, b), guardOf(c, d)}
					want := guardsCodeByWords(n, lits, guards)
					codes[want]++
					if got := impl.GuardsFault(n, lits, guards); got != want {
						t.Errorf("GuardsFault of %v: %d, want %d", guards, got, want)
					}
				}
			}
		}
	}
	if codes[impl.OK] < 8 || codes[impl.ErrForm] < 1000 || codes[impl.ErrNone] < 1000 {
		t.Errorf("codes told: %v", codes)
	}
}

// drawnGuards are of the pairs of lights that may be guards, in an order that is drawn, so many at the most.
func drawnGuards(draw *numbers, lits []impl.Lit, most int64) []impl.Guard {
	guards := []impl.Guard{}
	for _, work := range shuffled(draw, slices.Clone(lits)) {
		for _, spare := range shuffled(draw, slices.Clone(lits)) {
			guard := guardOf(work.Id, spare.Id)
			if int64(len(guards)) < most && guardCodeByWords(lits, guards, guard) == impl.OK {
				guards = append(guards, guard)
			}
		}
	}
	return guards
}

func TestGuardsFaultByWords(t *testing.T) {
	draw := numbers{state: 1910}
	codes := map[int64]int{}
	for range 300 {
		n := drawnNet(&draw, 3+draw.below(3), 2+draw.below(20), 3+int(draw.below(6)), 50)
		lits := drawnLits(&draw, n, 30, 3)
		guards := drawnGuards(&draw, lits, draw.below(21))
		for range draw.below(3) * int64(min(len(guards), 1)) {
			guard := &guards[draw.below(int64(len(guards)))]
			field := []*int64{&guard.Work, &guard.Spare}[draw.below(2)]
			*field = []int64{*field + draw.below(5) - 2, lits[draw.below(int64(len(lits)))].Id}[draw.below(2)]
		}
		codes[holdGuardsByWords(t, "drawn", n, lits, guards)]++
	}
	if codes[impl.OK] < 50 || codes[impl.ErrForm] < 30 || codes[impl.ErrNone] < 20 {
		t.Errorf("codes told: %v", codes)
	}
}
