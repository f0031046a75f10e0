package tests

import (
	"fmt"
	"math"
	"slices"
	"testing"

	"loop.example/g00049/impl"
)

func upOf(id int64, from int64, to int64, width int64, reach int64) impl.Order {
	return impl.Order{Up: true, Need: needOf(id, from, to, width, reach)}
}

// downOf has a need of which the Id alone counts.
func downOf(id int64) impl.Order {
	return impl.Order{Need: needOf(id, -9, 99, -9, math.MinInt64)}
}

func noOrders(code int64) impl.OrdersResult {
	return impl.OrdersResult{Code: code}
}

func toldOrders(used int64, codes []int64, lits ...impl.Lit) impl.OrdersResult {
	return impl.OrdersResult{Lits: lits, Codes: codes, Used: used}
}

func ordersByWords(n impl.Net, lits []impl.Lit, list []impl.Order, budget int64) impl.OrdersResult {
	if code := litsCodeByWords(n, lits); code != impl.OK {
		return noOrders(code)
	}
	if len(list) > 50 {
		return noOrders(impl.ErrMany)
	}
	if budget < 1 || budget > 20000 {
		return noOrders(impl.ErrRange)
	}
	told := toldOrders(0, nil, copyOfLits(lits)...)
	for _, order := range list {
		var code int64
		var next []impl.Lit
		switch {
		case !order.Up:
			down := downByWords(n, told.Lits, order.Need.Id)
			code, next = down.Code, down.Lits
		case told.Used == budget:
			code = impl.ErrMany
		default:
			up := signalByWords(n, told.Lits, order.Need, budget-told.Used)
			code, next = up.Code, up.Lits
			told.Used += int64(len(up.Hops))
		}
		told.Codes = append(told.Codes, code)
		if code == impl.OK {
			told.Lits = next
		}
	}
	return told
}

func holdOrders(t *testing.T, what string, n impl.Net, lits []impl.Lit, list []impl.Order, budget int64, want impl.OrdersResult) {
	t.Helper()
	ask := func(a netArgs) impl.OrdersResult { return impl.RunOrders(a.net, a.lits, a.orders, budget) }
	holdNet(t, fmt.Sprint(what, ", RunOrders by ", budget), netArgs{net: n, lits: lits, orders: list}, ask, want)
	if told := ordersByWords(n, lits, list, budget); fmt.Sprint(told) != fmt.Sprint(want) {
		t.Errorf("%s: the words tell %s of %s, not %s", what, brief(told), brief(list), brief(want))
	}
}

func TestOrdersTold(t *testing.T) {
	n := squareNet()
	far := litOf(1, 0, 2, 0, 4, 0, 1)
	holdOrders(t, "up", n, nil, []impl.Order{upOf(1, 0, 2, 4, 1000)}, 100, toldOrders(3, ids(0), far))
	beside := litOf(2, 0, 2, 4, 2, 0, 1)
	holdOrders(t, "up, up", n, nil, []impl.Order{upOf(1, 0, 2, 4, 1000), upOf(2, 0, 2, 2, 1000)}, 100, toldOrders(6, ids(0, 0), far, beside))
	low := litOf(2, 0, 2, 0, 2, 0, 1)
	holdOrders(t, "up, down, up", n, nil, []impl.Order{upOf(1, 0, 2, 4, 1000), downOf(1), upOf(2, 0, 2, 2, 1000)}, 100, toldOrders(6, ids(0, 0, 0), low))
	holdOrders(t, "up, up, down", n, nil, []impl.Order{upOf(2, 0, 2, 2, 1000), upOf(1, 0, 2, 4, 1000), downOf(2)}, 100, toldOrders(6, ids(0, 0, 0), litOf(1, 0, 2, 2, 4, 0, 1)))
	holdOrders(t, "up and down again", n, threeLits(), []impl.Order{upOf(7, 2, 3, 6, 1000), downOf(7)}, 100, toldOrders(2, ids(0, 0), threeLits()...))
	holdOrders(t, "down", n, threeLits(), []impl.Order{downOf(5)}, 1, toldOrders(0, ids(0), threeLits()[0], threeLits()[2]))
	holdOrders(t, "all down", n, threeLits(), []impl.Order{downOf(900), downOf(3), downOf(5)}, 1, toldOrders(0, ids(0, 0, 0)))
	holdOrders(t, "the same Id anew", n, threeLits(), []impl.Order{downOf(900), upOf(900, 2, 3, 6, 30)}, 9, toldOrders(2, ids(0, 0), threeLits()[0], threeLits()[1], litOf(900, 2, 3, 0, 6, 2)))
}

func TestOrdersOfNone(t *testing.T) {
	for _, budget := range []int64{1, 100, 20000} {
		holdOrders(t, "nil", squareNet(), threeLits(), nil, budget, toldOrders(0, nil, threeLits()...))
		holdOrders(t, "none", squareNet(), threeLits(), []impl.Order{}, budget, toldOrders(0, nil, threeLits()...))
		holdOrders(t, "no light", squareNet(), nil, nil, budget, toldOrders(0, nil))
		holdOrders(t, "no fibre", netOf(1, 1), []impl.Lit{}, nil, budget, toldOrders(0, nil))
		holdOrders(t, "forty lights", lineNet(64), thinLits(40), nil, budget, toldOrders(0, nil, thinLits(40)...))
	}
}

// TestOrdersRefused: what is refused changes no light, and what is behind it goes on.
func TestOrdersRefused(t *testing.T) {
	n, lits := squareNet(), threeLits()
	for _, order := range []impl.Order{
		downOf(4), downOf(0), downOf(-3), downOf(math.MaxInt64), {}, {Up: true},
		upOf(3, 2, 3, 1, 30), upOf(0, 2, 3, 1, 30), upOf(1, 2, 2, 1, 30), upOf(1, 4, 2, 1, 30), upOf(1, 2, 3, 0, 30), upOf(1, 2, 3, 7, 30), upOf(1, 2, 3, 1, 0),
		upOf(1, 2, 3, 1, 3), upOf(1, 0, 1, 1, 10), upOf(1, 1, 3, 6, 10),
	} {
		told := ordersByWords(n, lits, []impl.Order{order}, 100)
		if told.Codes[0] == impl.OK || fmt.Sprint(told.Lits) != fmt.Sprint(lits) {
			t.Errorf("%v: %s is not refused", order, brief(told))
		}
		holdOrders(t, "refused", n, lits, []impl.Order{order}, 100, told)
		holdOrders(t, "refused twice", n, lits, []impl.Order{order, order}, 100, toldOrders(2*told.Used, ids(told.Codes[0], told.Codes[0]), lits...))
		around := []impl.Order{upOf(6, 2, 3, 6, 30), order, downOf(6)}
		holdOrders(t, "refused in the middle", n, lits, around, 100, toldOrders(2+told.Used, ids(0, told.Codes[0], 0), lits...))
	}
	codes := ids(impl.ErrForm, impl.ErrNone, impl.ErrRange, 0, impl.ErrForm, impl.ErrNone, 0, impl.ErrNone)
	mixed := []impl.Order{upOf(3, 2, 3, 1, 30), downOf(4), upOf(1, 2, 3, 9, 30), upOf(4, 2, 3, 6, 30), upOf(4, 2, 3, 6, 30), upOf(6, 2, 3, 6, 30), downOf(4), downOf(4)}
	told := ordersByWords(n, lits, mixed, 100)
	holdOrders(t, "mixed", n, lits, mixed, 100, toldOrders(told.Used, codes, lits...))
	full := []impl.Order{upOf(4, 1, 0, 1, 10), downOf(2), upOf(4, 1, 0, 1, 10), upOf(7, 1, 0, 1, 10)}
	want := slices.Insert(thinLits(40)[1:], 0, litOf(4, 1, 0, 0, 1, 0))
	holdOrders(t, "forty and no more", lineNet(64), thinLits(40), full, 100, toldOrders(1, ids(impl.ErrMany, 0, 0, impl.ErrMany), want...))
}

// TestOrdersUseUpTheBudget: with none left what goes up is ErrMany, whatever else is wrong with it, and what goes down goes down.
func TestOrdersUseUpTheBudget(t *testing.T) {
	line := lineNet(8)
	ups := []impl.Order{upOf(1, 0, 1, 2, 10), upOf(2, 1, 0, 2, 10), upOf(3, 0, 1, 2, 10), upOf(4, 0, 1, 2, 10)}
	lits := []impl.Lit{litOf(1, 0, 1, 0, 2, 0), litOf(2, 1, 0, 2, 2, 0), litOf(3, 0, 1, 4, 2, 0), litOf(4, 0, 1, 6, 2, 0)}
	for budget := int64(1); budget <= 6; budget++ {
		codes := ids(impl.ErrMany, impl.ErrMany, impl.ErrMany, impl.ErrMany)
		used := min(budget, 4)
		for i := range used {
			codes[i] = impl.OK
		}
		holdOrders(t, "a hop each", line, nil, ups, budget, toldOrders(used, codes, lits[:used]...))
	}
	wrong := []impl.Order{{Up: true}, upOf(1, 0, 1, 2, 10), upOf(9, 3, 3, 2, 10), upOf(9, 0, 1, 9, 10), upOf(9, 0, 1, 2, 0), upOf(9, 0, 1, 2, 9), upOf(9, 0, 1, 8, 10)}
	holdOrders(t, "wrong ones, with one left", line, lits[:1], wrong[:6], 1, toldOrders(1, ids(impl.ErrForm, impl.ErrForm, impl.ErrForm, impl.ErrRange, impl.ErrRange, impl.ErrNone), lits[0]))
	many := slices.Repeat(ids(impl.ErrMany), len(wrong))
	holdOrders(t, "wrong ones, with none left", line, lits[:1], append(ups[1:2:2], wrong...), 1, toldOrders(1, append(ids(0), many...), lits[:2]...))
	turns := []impl.Order{ups[0], ups[1], downOf(1), ups[2], downOf(2), downOf(1), {Up: true}, downOf(0)}
	holdOrders(t, "down still", line, nil, turns, 2, toldOrders(2, ids(0, 0, 0, impl.ErrMany, 0, impl.ErrNone, impl.ErrMany, impl.ErrNone)))
	third := litOf(3, 0, 1, 0, 2, 0)
	holdOrders(t, "down still, with a third hop", line, nil, turns, 3, toldOrders(3, ids(0, 0, 0, 0, 0, impl.ErrNone, impl.ErrMany, impl.ErrNone), third))
	holdOrders(t, "one hop is left", line, nil, turns, 4, toldOrders(3, ids(0, 0, 0, 0, 0, impl.ErrNone, impl.ErrForm, impl.ErrNone), third))
}

// TestOrdersBudgetWithinAWay: a budget that ends in the middle of a way is used up all the same.
func TestOrdersBudgetWithinAWay(t *testing.T) {
	n := squareNet()
	list := []impl.Order{upOf(1, 0, 2, 4, 1000), upOf(2, 0, 2, 2, 1000), downOf(1), upOf(3, 0, 1, 1, 1000)} // three hops, three, none, one
	first, second := litOf(1, 0, 2, 0, 4, 0, 1), litOf(2, 0, 2, 4, 2, 0, 1)
	holdOrders(t, "just enough", n, nil, list, 7, toldOrders(7, ids(0, 0, 0, 0), second, litOf(3, 0, 1, 0, 1, 0)))
	holdOrders(t, "one less", n, nil, list, 6, toldOrders(6, ids(0, 0, 0, impl.ErrMany), second))
	for budget := int64(4); budget <= 5; budget++ {
		holdOrders(t, "within the second", n, nil, list, budget, toldOrders(budget, ids(0, impl.ErrMany, 0, impl.ErrMany)))
		holdOrders(t, "within the last", n, nil, list[:2], budget, toldOrders(budget, ids(0, impl.ErrMany), first))
	}
	holdOrders(t, "just the first", n, nil, list, 3, toldOrders(3, ids(0, impl.ErrMany, 0, impl.ErrMany)))
	for budget := int64(1); budget <= 2; budget++ {
		holdOrders(t, "within the first", n, nil, list, budget, toldOrders(budget, ids(impl.ErrMany, impl.ErrMany, impl.ErrNone, impl.ErrMany)))
	}
	long := slices.Repeat([]impl.Order{upOf(1, 0, 7, 1, 1000)}, 50)
	codes := slices.Concat(slices.Repeat(ids(impl.ErrNone), 13), slices.Repeat(ids(impl.ErrMany), 37))
	holdOrders(t, "the greatest budget", longestNet(), nil, long, 20000, toldOrders(20000, codes))
	holdOrders(t, "just thirteen", longestNet(), nil, long[:14], 13*1488, toldOrders(13*1488, codes[:14]))
	holdOrders(t, "one less", longestNet(), nil, long[:13], 13*1488-1, toldOrders(13*1488-1, append(codes[:12:12], impl.ErrMany)))
}

// byTurns has so many orders, each second one of which takes down what was set up.
func byTurns(count int) []impl.Order {
	list := []impl.Order{}
	for i := range int64(count) {
		id := 3 + i/2
		if i%2 == 1 {
			list = append(list, downOf(id))
		} else {
			list = append(list, upOf(id, 0, 1, 64, 10))
		}
	}
	return list
}

func TestOrdersOfMany(t *testing.T) {
	for _, count := range []int{1, 2, 49, 50} {
		want := toldOrders(int64(count+1)/2, make([]int64, count))
		if count%2 == 1 {
			want.Lits = []impl.Lit{litOf(3+int64(count)/2, 0, 1, 0, 64, 0)}
		}
		holdOrders(t, "by turns", lineNet(64), nil, byTurns(count), 100, want)
		holdOrders(t, "that say nothing", lineNet(64), thinLits(3), make([]impl.Order, count), 1, toldOrders(0, slices.Repeat(ids(impl.ErrNone), count), thinLits(3)...))
	}
	for _, count := range []int{51, 52, 100, 306} {
		for _, budget := range []int64{1, 100, 20000, 0, 20001, -1} {
			holdOrders(t, "too many", lineNet(64), nil, byTurns(count), budget, noOrders(impl.ErrMany))
			holdOrders(t, "too many that say nothing", lineNet(64), thinLits(3), make([]impl.Order, count), budget, noOrders(impl.ErrMany))
		}
	}
}

// TestOrdersFaultsInTheirOrder: the lights' faults, then too many orders, then the budget.
func TestOrdersFaultsInTheirOrder(t *testing.T) {
	n := squareNet()
	for _, list := range [][]impl.Order{nil, {upOf(1, 2, 3, 1, 30)}, {downOf(3)}, make([]impl.Order, 51)} {
		for _, budget := range []int64{100, 0, 20001} {
			for what, lits := range wrongLits() {
				holdOrders(t, what, n, lits, list, budget, noOrders(litsCodeByWords(n, lits)))
			}
			for what, wrong := range wrongNets() {
				for _, lits := range [][]impl.Lit{nil, threeLits(), thinLits(41)} {
					holdOrders(t, what, wrong, lits, list, budget, noOrders(netCodeByWords(wrong)))
				}
			}
		}
	}
	for _, budget := range noBudgets() {
		for _, list := range [][]impl.Order{nil, {upOf(1, 2, 3, 1, 30)}, {{Up: true}}, {downOf(3)}, {downOf(4)}, make([]impl.Order, 50)} {
			holdOrders(t, "no budget", n, threeLits(), list, budget, noOrders(impl.ErrRange))
			holdOrders(t, "no budget, no fibre", netOf(1, 1), nil, list, budget, noOrders(impl.ErrRange))
		}
	}
}

func drawnOrders(draw *numbers, n impl.Net, count int64) []impl.Order {
	list := []impl.Order{}
	for range count {
		need := drawnNeed(draw, n)
		list = append(list, impl.Order{Up: draw.below(3) > 0, Need: need})
	}
	return list
}

// holdInParts: what was done up to an order and then from there on is what was done at once.
func holdInParts(t *testing.T, n impl.Net, lits []impl.Lit, list []impl.Order, budget int64) {
	t.Helper()
	whole := impl.RunOrders(n, lits, list, budget)
	for cut := range len(list) + 1 {
		first := impl.RunOrders(n, lits, list[:cut], budget)
		if first.Used == budget {
			// No budget is left for a second part.
			if whole.Used != budget {
				t.Errorf("%s: %d hops are used at once, %d up to order %d", brief(n), whole.Used, budget, cut)
			}
			continue
		}
		second := impl.RunOrders(n, first.Lits, list[cut:], budget-first.Used)
		both := toldOrders(first.Used+second.Used, slices.Concat(first.Codes, second.Codes), second.Lits...)
		if first.Code != impl.OK || second.Code != impl.OK || fmt.Sprint(both) != fmt.Sprint(whole) {
			t.Errorf("%s, %s cut at %d by %d: %s, at once %s", brief(n), brief(list), cut, budget, brief(both), brief(whole))
		}
	}
}

// holdOneByOne: the calls for single orders do the same.
func holdOneByOne(t *testing.T, n impl.Net, lits []impl.Lit, list []impl.Order, budget int64) {
	t.Helper()
	whole := impl.RunOrders(n, lits, list, budget)
	used := int64(0)
	for i, order := range list {
		code, next := int64(impl.ErrMany), lits
		if !order.Up {
			down := impl.LightDown(n, lits, order.Need.Id)
			code, next = down.Code, down.Lits
		} else if used < budget {
			up := impl.SignalUp(n, lits, order.Need, budget-used)
			code, next = up.Code, up.Lits
			used += up.Used
		}
		if code == impl.OK {
			lits = next
		}
		if whole.Codes[i] != code {
			t.Errorf("%s: order %d, %v, has code %d, alone %d", brief(n), i, order, whole.Codes[i], code)
		}
	}
	if whole.Used != used || fmt.Sprint(whole.Lits) != fmt.Sprint(lits) {
		t.Errorf("%s: %s, one by one %d hops and %s", brief(n), brief(whole), used, brief(lits))
	}
}

func TestOrdersByWords(t *testing.T) {
	draw := numbers{state: 2104}
	codes := map[int64]int{}
	for range 60 {
		n := drawnNet(&draw, 2+draw.below(7), 2+draw.below(10), 3+int(draw.below(9)), 40)
		lits := drawnLits(&draw, n, int(draw.below(20)), 3)
		list := drawnOrders(&draw, n, draw.below(51))
		whole := ordersByWords(n, lits, list, 20000)
		for _, budget := range []int64{20000, max(whole.Used, 1), 1 + draw.below(whole.Used+1), 1 + draw.below(30)} {
			want := ordersByWords(n, lits, list, budget)
			for _, code := range want.Codes {
				codes[code]++
			}
			holdOrders(t, "drawn", n, lits, list, budget, want)
			holdInParts(t, n, lits, list, budget)
			holdOneByOne(t, n, lits, list, budget)
			if code := impl.LitsFault(n, want.Lits); code != impl.OK {
				t.Errorf("%s: the lights at the end have code %d", brief(n), code)
			}
		}
	}
	if codes[impl.OK] < 500 || codes[impl.ErrNone] < 500 || codes[impl.ErrMany] < 500 || codes[impl.ErrForm] < 200 || codes[impl.ErrRange] < 20 {
		t.Errorf("codes told: %v", codes)
	}
}
