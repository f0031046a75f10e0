package tests

import (
	"fmt"
	"math"
	"slices"
	"testing"

	"loop.example/g00049/impl"
)

func noLits(code int64) impl.LitsResult {
	return impl.LitsResult{Code: code}
}

func toldLits(lits ...impl.Lit) impl.LitsResult {
	return impl.LitsResult{Lits: lits}
}

func needOf(id int64, from int64, to int64, width int64, reach int64) impl.Need {
	return impl.Need{Id: id, From: from, To: to, Width: width, Reach: reach}
}

// needCodeByWords asks all ahead of looking for routes.
func needCodeByWords(n impl.Net, lits []impl.Lit, need impl.Need) int64 {
	if code := litsCodeByWords(n, lits); code != impl.OK {
		return code
	}
	has := slices.ContainsFunc(lits, func(lit impl.Lit) bool { return lit.Id == need.Id })
	switch {
	case len(lits) == 40:
		return impl.ErrMany
	case need.Id < 1 || need.Id > 1000000000 || has:
		return impl.ErrForm
	case need.From < 0 || need.From >= n.Nodes || need.To < 0 || need.To >= n.Nodes || need.From == need.To:
		return impl.ErrForm
	case need.Width < 1 || need.Width > n.Slots || need.Reach < 1:
		return impl.ErrRange
	}
	return impl.OK
}

func upByWords(n impl.Net, lits []impl.Lit, need impl.Need) impl.LitsResult {
	if code := needCodeByWords(n, lits, need); code != impl.OK {
		return noLits(code)
	}
	code := int64(impl.ErrNone)
	for _, path := range routesByWords(n, need.From, need.To, 200).Routes {
		if kmByWords(n, path) > need.Reach {
			continue
		}
		code = impl.ErrTaken
		first := fitByFree(n, lits, path, need.Width)
		if first < 0 {
			continue
		}
		at := 0
		for at < len(lits) && lits[at].Id < need.Id {
			at++
		}
		lit := litOf(need.Id, need.From, need.To, first, need.Width, path...)
		return toldLits(slices.Insert(copyOfLits(lits), at, lit)...)
	}
	return noLits(code)
}

func downByWords(n impl.Net, lits []impl.Lit, id int64) impl.LitsResult {
	if code := litsCodeByWords(n, lits); code != impl.OK {
		return noLits(code)
	}
	for at, lit := range lits {
		if lit.Id == id {
			return toldLits(slices.Delete(copyOfLits(lits), at, at+1)...)
		}
	}
	return noLits(impl.ErrNone)
}

func holdUp(t *testing.T, what string, n impl.Net, lits []impl.Lit, need impl.Need, want impl.LitsResult) {
	t.Helper()
	ask := func(a netArgs) impl.LitsResult { return impl.LightUp(a.net, a.lits, need) }
	holdNet(t, fmt.Sprint(what, ", LightUp of ", need), netArgs{net: n, lits: lits}, ask, want)
	if told := upByWords(n, lits, need); fmt.Sprint(told) != fmt.Sprint(want) {
		t.Errorf("%s: the words tell %s of %v, not %s", what, brief(told), need, brief(want))
	}
}

func holdDown(t *testing.T, what string, n impl.Net, lits []impl.Lit, id int64, want impl.LitsResult) {
	t.Helper()
	ask := func(a netArgs) impl.LitsResult { return impl.LightDown(a.net, a.lits, id) }
	holdNet(t, fmt.Sprint(what, ", LightDown of ", id), netArgs{net: n, lits: lits}, ask, want)
	if told := downByWords(n, lits, id); fmt.Sprint(told) != fmt.Sprint(want) {
		t.Errorf("%s: the words tell %s of %d, not %s", what, brief(told), id, brief(want))
	}
}

func TestLightUpTold(t *testing.T) {
	n := squareNet()
	holdUp(t, "the first light", n, nil, needOf(1, 0, 2, 2, 30), toldLits(litOf(1, 0, 2, 0, 2, 0, 1)))
	holdUp(t, "the other way", n, []impl.Lit{}, needOf(1, 2, 0, 6, 30), toldLits(litOf(1, 2, 0, 0, 6, 1, 0)))
	one := []impl.Lit{litOf(7, 0, 2, 0, 2, 0, 1)}
	holdUp(t, "beside it", n, one, needOf(8, 0, 2, 4, 1000), toldLits(one[0], litOf(8, 0, 2, 2, 4, 0, 1)))
	holdUp(t, "ahead of it", n, one, needOf(6, 0, 2, 4, 1000), toldLits(litOf(6, 0, 2, 2, 4, 0, 1), one[0]))
	holdUp(t, "another way", n, one, needOf(8, 0, 2, 5, 1000), toldLits(one[0], litOf(8, 0, 2, 0, 5, 3, 2)))
	holdUp(t, "no fibre in common", n, one, needOf(8, 2, 3, 6, 30), toldLits(one[0], litOf(8, 2, 3, 0, 6, 2)))
	holdUp(t, "the second route has room", n, []impl.Lit{litOf(7, 1, 2, 0, 4, 1)}, needOf(8, 0, 2, 3, 1000), toldLits(litOf(7, 1, 2, 0, 4, 1), litOf(8, 0, 2, 0, 3, 0, 4, 2)))
	holdUp(t, "a hole", n, []impl.Lit{litOf(7, 0, 1, 1, 1, 0), litOf(8, 1, 2, 4, 2, 1)}, needOf(9, 0, 2, 2, 1000), toldLits(litOf(7, 0, 1, 1, 1, 0), litOf(8, 1, 2, 4, 2, 1), litOf(9, 0, 2, 2, 2, 0, 1)))
}

// TestLightUpWithinReach: from the least number to beyond the longest route.
func TestLightUpWithinReach(t *testing.T) {
	n := squareNet()
	for _, reach := range []int64{1, 2, 29} {
		holdUp(t, "beyond reach", n, nil, needOf(1, 0, 2, 1, reach), noLits(impl.ErrNone))
	}
	blocked := []impl.Lit{litOf(7, 1, 2, 0, 4, 1)}
	for _, reach := range []int64{30, 31, 44} {
		holdUp(t, "one within", n, nil, needOf(9, 0, 2, 1, reach), toldLits(litOf(9, 0, 2, 0, 1, 0, 1)))
		holdUp(t, "one within, no room", n, blocked, needOf(9, 0, 2, 3, reach), noLits(impl.ErrTaken))
	}
	for _, reach := range []int64{45, 46, 1000, 1 << 32, math.MaxInt64} {
		holdUp(t, "the second within", n, blocked, needOf(9, 0, 2, 3, reach), toldLits(blocked[0], litOf(9, 0, 2, 0, 3, 0, 4, 2)))
	}
	crossing := append(copyOfLits(blocked), litOf(8, 1, 3, 0, 6, 4))
	for _, reach := range []int64{45, 64, 65, 69} {
		holdUp(t, "none has room", n, crossing, needOf(9, 0, 2, 3, reach), noLits(impl.ErrTaken))
	}
	holdUp(t, "the fourth has room", n, crossing, needOf(9, 0, 2, 3, 70), toldLits(crossing[0], crossing[1], litOf(9, 0, 2, 0, 3, 3, 2)))
	holdUp(t, "not joined", netOf(3, 4, fibreOf(0, 1, 1)), nil, needOf(1, 0, 2, 1, math.MaxInt64), noLits(impl.ErrNone))
	holdUp(t, "no fibre", netOf(2, 4), nil, needOf(1, 0, 1, 1, 1), noLits(impl.ErrNone))
	far := netOf(2, 4, fibreOf(0, 1, 100000))
	holdUp(t, "far", far, nil, needOf(1, 0, 1, 1, 99999), noLits(impl.ErrNone))
	holdUp(t, "far", far, nil, needOf(1, 0, 1, 1, 100000), toldLits(litOf(1, 0, 1, 0, 1, 0)))
	holdUp(t, "full", far, []impl.Lit{litOf(1, 0, 1, 0, 4, 0)}, needOf(2, 0, 1, 1, 99999), noLits(impl.ErrNone))
	holdUp(t, "full", far, []impl.Lit{litOf(1, 0, 1, 0, 4, 0)}, needOf(2, 0, 1, 1, 100000), noLits(impl.ErrTaken))
}

func TestLightUpOfIds(t *testing.T) {
	n, lits := squareNet(), threeLits()
	for _, id := range []int64{0, -1, -3, math.MinInt64, math.MinInt64 + 1, 1000000001, 1000000002, 1<<32 + 1, math.MaxInt64, 3, 5, 900} {
		holdUp(t, "wrong Id", n, lits, needOf(id, 0, 2, 1, 1000), noLits(impl.ErrForm))
	}
	for place, id := range []int64{1, 2, 4, 6, 899, 901, 999999999, 1000000000} {
		at := []int{0, 0, 1, 2, 2, 3, 3, 3}[place]
		want := slices.Insert(copyOfLits(lits), at, litOf(id, 2, 3, 0, 6, 2))
		holdUp(t, "an Id", n, lits, needOf(id, 2, 3, 6, 1000), toldLits(want...))
	}
	great := []impl.Lit{litOf(1000000001, 0, 1, 0, 6, 0), litOf(math.MaxInt64, 1, 3, 0, 6, 4)}
	holdUp(t, "greater ones there", n, great, needOf(1000000000, 2, 3, 1, 30), toldLits(litOf(1000000000, 2, 3, 0, 1, 2), great[0], great[1]))
}

func TestLightUpOfWrongNeeds(t *testing.T) {
	n, lits := squareNet(), threeLits()
	for _, end := range []int64{-1, 4, 5, 8, 1 << 32, math.MaxInt64, math.MinInt64, math.MinInt64 + 1} {
		holdUp(t, "from", n, lits, needOf(1, end, 1, 1, 1000), noLits(impl.ErrForm))
		holdUp(t, "to", n, lits, needOf(1, 1, end, 1, 1000), noLits(impl.ErrForm))
		holdUp(t, "both", n, lits, needOf(1, end, end, 1, 1000), noLits(impl.ErrForm))
		holdUp(t, "from and width", n, lits, needOf(1, end, 1, 0, 0), noLits(impl.ErrForm))
	}
	for node := range int64(4) {
		holdUp(t, "the same", n, lits, needOf(1, node, node, 1, 1000), noLits(impl.ErrForm))
		holdUp(t, "the same and width", n, lits, needOf(1, node, node, 0, 1000), noLits(impl.ErrForm))
	}
	for _, width := range []int64{0, -1, 7, 8, 64, 65, 1 << 32, 1<<32 + 1, math.MaxInt64, math.MinInt64, math.MinInt64 + 1} {
		holdUp(t, "width", n, lits, needOf(1, 2, 3, width, 1000), noLits(impl.ErrRange))
		holdUp(t, "width, none in reach", n, lits, needOf(1, 2, 3, width, 1), noLits(impl.ErrRange))
	}
	for _, reach := range []int64{0, -1, -1000, math.MinInt64, math.MinInt64 + 1} {
		holdUp(t, "reach", n, lits, needOf(1, 2, 3, 1, reach), noLits(impl.ErrRange))
		holdUp(t, "reach, no room", n, lits, needOf(1, 0, 1, 6, reach), noLits(impl.ErrRange))
	}
	holdUp(t, "as wide as may be", n, lits, needOf(1, 2, 3, 6, 30), toldLits(append([]impl.Lit{litOf(1, 2, 3, 0, 6, 2)}, lits...)...))
	holdUp(t, "no room for so much", n, lits, needOf(1, 0, 1, 6, 10), noLits(impl.ErrTaken))
	holdUp(t, "as near as may be", lineNet(1), nil, needOf(1, 0, 1, 1, 1), noLits(impl.ErrNone))
	near := netOf(2, 1, fibreOf(0, 1, 1))
	holdUp(t, "as near as may be", near, nil, needOf(1, 1, 0, 1, 1), toldLits(litOf(1, 1, 0, 0, 1, 0)))
}

// TestLightUpOfManyLights: forty are too many ahead of all that is wrong with the need, not with the lights.
func TestLightUpOfManyLights(t *testing.T) {
	n := lineNet(64)
	needs := []impl.Need{needOf(1, 0, 1, 1, 1000), needOf(0, 0, 1, 1, 1000), needOf(2, 0, 1, 1, 1000), needOf(1, 0, 9, 1, 1000), needOf(1, 0, 1, 0, 1000), needOf(1, 0, 1, 1, 0), {}}
	for _, need := range needs {
		holdUp(t, "forty", n, thinLits(40), need, noLits(impl.ErrMany))
		holdUp(t, "more than forty", n, thinLits(41), need, noLits(impl.ErrMany))
		wrong := changedLits(thinLits(40), func(l []impl.Lit) { l[39].First = 38 })
		holdUp(t, "forty, one wrong", n, wrong, need, noLits(impl.ErrTaken))
	}
	holdUp(t, "the fortieth", n, thinLits(39), needOf(4, 1, 0, 25, 10), toldLits(slices.Insert(thinLits(39), 1, litOf(4, 1, 0, 39, 25, 0))...))
	holdUp(t, "no room for the fortieth", n, thinLits(39), needOf(4, 1, 0, 26, 10), noLits(impl.ErrTaken))
}

// TestLightUpFaultsInTheirOrder: the lights' faults first, then the need's.
func TestLightUpFaultsInTheirOrder(t *testing.T) {
	n := squareNet()
	values := []impl.Need{needOf(1, 2, 3, 1, 1000), needOf(0, 2, 2, 0, 0), needOf(3, 2, 3, 7, 1), needOf(1, 2, 2, 0, 0), needOf(1, 2, 3, 0, 1), needOf(1, 2, 3, 1, 1)}
	for what, lits := range wrongLits() {
		for _, need := range values {
			holdUp(t, what, n, lits, need, noLits(litsCodeByWords(n, lits)))
		}
	}
	for what, wrong := range wrongNets() {
		for _, need := range values {
			holdUp(t, what, wrong, nil, need, noLits(netCodeByWords(wrong)))
			holdUp(t, what, wrong, threeLits(), need, noLits(netCodeByWords(wrong)))
			holdUp(t, what, wrong, thinLits(41), need, noLits(netCodeByWords(wrong)))
		}
	}
	for _, need := range values {
		holdUp(t, "the need alone", n, threeLits(), need, upByWords(n, threeLits(), need))
	}
}

func TestLightDownTold(t *testing.T) {
	n, lits := squareNet(), threeLits()
	holdDown(t, "the first", n, lits, 3, toldLits(lits[1], lits[2]))
	holdDown(t, "a middle one", n, lits, 5, toldLits(lits[0], lits[2]))
	holdDown(t, "the last", n, lits, 900, toldLits(lits[0], lits[1]))
	holdDown(t, "the only one", n, lits[:1], 3, toldLits())
	for _, id := range []int64{0, -1, 1, 2, 4, 6, 899, 901, 1 << 32, math.MaxInt64, math.MinInt64} {
		holdDown(t, "no such Id", n, lits, id, noLits(impl.ErrNone))
		holdDown(t, "no light", n, nil, id, noLits(impl.ErrNone))
		holdDown(t, "no fibre", netOf(1, 1), nil, id, noLits(impl.ErrNone))
	}
	great := append(copyOfLits(lits), litOf(math.MaxInt64, 2, 3, 0, 1, 2))
	holdDown(t, "the greatest", n, great, math.MaxInt64, toldLits(lits...))
	for id := range int64(125) {
		holdDown(t, "forty", lineNet(64), thinLits(40), id, downByWords(lineNet(64), thinLits(40), id))
	}
}

func TestLightDownOfWrongLights(t *testing.T) {
	for _, id := range []int64{-1, 0, 1, 3, 5, 900} {
		for what, lits := range wrongLits() {
			holdDown(t, what, squareNet(), lits, id, noLits(litsCodeByWords(squareNet(), lits)))
		}
		for what, wrong := range wrongNets() {
			holdDown(t, what, wrong, nil, id, noLits(netCodeByWords(wrong)))
			holdDown(t, what, wrong, threeLits(), id, noLits(netCodeByWords(wrong)))
			holdDown(t, what, wrong, thinLits(41), id, noLits(netCodeByWords(wrong)))
		}
	}
}

// drawnNeed is most often one that may be met.
func drawnNeed(draw *numbers, n impl.Net) impl.Need {
	need := needOf(1+draw.below(60), draw.below(n.Nodes), draw.below(n.Nodes), 1+draw.below(min(n.Slots, 6)), 20+draw.below(150))
	if draw.below(8) == 0 {
		field := []*int64{&need.Id, &need.From, &need.To, &need.Width, &need.Reach}[draw.below(5)]
		*field = draw.below(70) - 2
	}
	return need
}

// TestLightsUpAndDown: step by step by the words; what was set up and taken down again is what was.
func TestLightsUpAndDown(t *testing.T) {
	draw := numbers{state: 1840}
	codes := map[int64]int{}
	for range 12 {
		n := drawnNet(&draw, 3+draw.below(5), 4+draw.below(12), 4+int(draw.below(11)), 40)
		lits := []impl.Lit{}
		for range 60 {
			if draw.below(4) == 0 {
				id := 1 + draw.below(60)
				want := downByWords(n, lits, id)
				holdDown(t, "drawn", n, lits, id, want)
				if want.Code == impl.OK {
					lits = want.Lits
				}
				continue
			}
			need := drawnNeed(&draw, n)
			want := upByWords(n, lits, need)
			codes[want.Code]++
			holdUp(t, "drawn", n, lits, need, want)
			if want.Code != impl.OK {
				continue
			}
			up := impl.LightUp(n, lits, need)
			if code := impl.LitsFault(n, up.Lits); code != impl.OK {
				t.Errorf("the lights that were set up have code %d", code)
			}
			holdDown(t, "what was set up", n, up.Lits, need.Id, toldLits(lits...))
			lits = want.Lits
		}
	}
	if codes[impl.OK] < 60 || codes[impl.ErrForm] < 20 || codes[impl.ErrRange] < 5 || codes[impl.ErrNone] < 10 || codes[impl.ErrTaken] < 10 {
		t.Errorf("codes told: %v", codes)
	}
}

// TestLightsFillANet: equal lights are set up till there is no room, then taken down in another order.
func TestLightsFillANet(t *testing.T) {
	draw := numbers{state: 1841}
	for _, width := range []int64{1, 2, 3, 8} {
		n := manyRoutesNet(3)
		lits, ids := []impl.Lit{}, []int64{}
		for id := int64(1); ; id++ {
			up := impl.LightUp(n, lits, needOf(id, 0, 7, width, 21))
			if up.Code != impl.OK {
				if up.Code != impl.ErrTaken || len(lits) == 0 {
					t.Errorf("width %d: code %d behind %d lights", width, up.Code, len(lits))
				}
				break
			}
			lits, ids = up.Lits, append(ids, id)
		}
		// Two fibres lead to the last node, each with room for so many.
		if want := 2 * (8 / width); int64(len(lits)) != want {
			t.Errorf("width %d: %d lights, want %d", width, len(lits), want)
		}
		for _, id := range shuffled(&draw, ids) {
			lits = impl.LightDown(n, lits, id).Lits
		}
		if len(lits) != 0 {
			t.Errorf("width %d: %d lights are left", width, len(lits))
		}
	}
}
