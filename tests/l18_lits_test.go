package tests

import (
	"math"
	"slices"
	"testing"

	"loop.example/g00049/impl"
)

func litOf(id int64, from int64, to int64, first int64, width int64, path ...int64) impl.Lit {
	return impl.Lit{Id: id, From: from, To: to, Path: path, First: first, Width: width}
}

// ownerByWords is the Id of the first light that has a slot of a fibre; 0, if none has it.
func ownerByWords(lits []impl.Lit, place int64, slot int64) int64 {
	for _, lit := range lits {
		if slices.Contains(lit.Path, place) && lit.First <= slot && slot-lit.First < lit.Width {
			return lit.Id
		}
	}
	return 0
}

// litCodeByWords is of one light, behind those ahead of it.
func litCodeByWords(n impl.Net, ahead []impl.Lit, lit impl.Lit) int64 {
	if lit.Id < 1 || len(ahead) > 0 && lit.Id <= ahead[len(ahead)-1].Id {
		return impl.ErrForm
	}
	if code := routeCodeByWords(n, lit.From, lit.To, lit.Path); code != impl.OK {
		return code
	}
	if lit.Width < 1 || lit.First < 0 || lit.Width > 64 || lit.First > 64 || lit.First+lit.Width > n.Slots {
		return impl.ErrRange
	}
	for _, place := range lit.Path {
		for slot := lit.First; slot < lit.First+lit.Width; slot++ {
			if ownerByWords(ahead, place, slot) != 0 {
				return impl.ErrTaken
			}
		}
	}
	return impl.OK
}

func litsCodeByWords(n impl.Net, lits []impl.Lit) int64 {
	if code := netCodeByWords(n); code != impl.OK {
		return code
	}
	if len(lits) > 40 {
		return impl.ErrMany
	}
	for i, lit := range lits {
		if code := litCodeByWords(n, lits[:i], lit); code != impl.OK {
			return code
		}
	}
	return impl.OK
}

func copyOfLits(lits []impl.Lit) []impl.Lit {
	twins := slices.Clone(lits)
	for i := range twins {
		twins[i].Path = slices.Clone(twins[i].Path)
	}
	return twins
}

func changedLits(lits []impl.Lit, change func([]impl.Lit)) []impl.Lit {
	twins := copyOfLits(lits)
	change(twins)
	return twins
}

// threeLits lie on the square net, the first two in the same slots of other fibres.
func threeLits() []impl.Lit {
	return []impl.Lit{litOf(3, 0, 2, 0, 2, 0, 1), litOf(5, 3, 1, 0, 2, 4), litOf(900, 0, 3, 2, 4, 0, 4)}
}

// thinLits are so many lights of one slot each, on the one fibre of two nodes.
func thinLits(count int64) []impl.Lit {
	lits := []impl.Lit{}
	for i := range count {
		lits = append(lits, litOf(2+3*i, i%2, 1-i%2, i, 1, 0))
	}
	return lits
}

func lineNet(slots int64) impl.Net {
	return netOf(2, slots, fibreOf(0, 1, 10))
}

// drawnLits tries so often to lay a light that is drawn; those that fit are kept.
func drawnLits(draw *numbers, n impl.Net, tries int, width int64) []impl.Lit {
	lits := []impl.Lit{}
	for range tries {
		from := draw.below(n.Nodes)
		to := (from + 1 + draw.below(n.Nodes-1)) % n.Nodes
		routes := routesByNodes(n, from, to)
		if len(routes) == 0 || len(lits) == 40 {
			continue
		}
		id := 1 + draw.below(5)
		if len(lits) > 0 {
			id += lits[len(lits)-1].Id
		}
		lit := litOf(id, from, to, draw.below(n.Slots), 1+draw.below(width), routes[draw.below(int64(len(routes)))]...)
		if litCodeByWords(n, lits, lit) == impl.OK {
			lits = append(lits, lit)
		}
	}
	return lits
}

func holdLits(t *testing.T, what string, n impl.Net, lits []impl.Lit, want int64) {
	t.Helper()
	ask := func(a netArgs) int64 { return impl.LitsFault(a.net, a.lits) }
	holdNet(t, what+", LitsFault", netArgs{net: n, lits: lits}, ask, want)
	if told := litsCodeByWords(n, lits); told != want {
		t.Errorf("%s: the words tell %d of %s, not %d", what, told, brief(lits), want)
	}
}

// holdLitsByWords has the words tell the code, and hands it on.
func holdLitsByWords(t *testing.T, what string, n impl.Net, lits []impl.Lit) int64 {
	t.Helper()
	code := litsCodeByWords(n, lits)
	holdLits(t, what, n, lits, code)
	return code
}

func TestLitsFaultTold(t *testing.T) {
	holdLits(t, "nil", squareNet(), nil, impl.OK)
	holdLits(t, "none", squareNet(), []impl.Lit{}, impl.OK)
	holdLits(t, "none, no fibre", netOf(1, 1), nil, impl.OK)
	holdLits(t, "three", squareNet(), threeLits(), impl.OK)
	for count := range int64(41) {
		holdLits(t, "thin", lineNet(64), thinLits(count), impl.OK)
	}
	for _, count := range []int64{41, 42, 64, 100} {
		holdLits(t, "too many", lineNet(64), thinLits(count), impl.ErrMany)
		holdLits(t, "too many wrong ones", lineNet(64), make([]impl.Lit, count), impl.ErrMany)
	}
	holdLits(t, "nothing", squareNet(), make([]impl.Lit, 1), impl.ErrForm)
}

func TestLitsFaultOfWrongNets(t *testing.T) {
	for what, n := range wrongNets() {
		for _, lits := range [][]impl.Lit{nil, threeLits(), make([]impl.Lit, 1), make([]impl.Lit, 41), thinLits(41)} {
			holdLits(t, what, n, lits, netCodeByWords(n))
		}
	}
}

func TestLitsFaultOfIds(t *testing.T) {
	wrong := []int64{0, -1, -5, math.MinInt64, math.MinInt64 + 1}
	for _, id := range wrong {
		for at := range 3 {
			holdLits(t, "below 1", squareNet(), changedLits(threeLits(), func(l []impl.Lit) { l[at].Id = id }), impl.ErrForm)
		}
	}
	for _, id := range []int64{1, 2, 4, 5, 6, 899, 900, 901} {
		first := changedLits(threeLits(), func(l []impl.Lit) { l[0].Id = id })
		middle := changedLits(threeLits(), func(l []impl.Lit) { l[1].Id = id })
		last := changedLits(threeLits(), func(l []impl.Lit) { l[2].Id = id })
		holdLits(t, "first", squareNet(), first, map[bool]int64{true: impl.OK, false: impl.ErrForm}[id < 5])
		holdLits(t, "middle", squareNet(), middle, map[bool]int64{true: impl.OK, false: impl.ErrForm}[id > 3 && id < 900])
		holdLits(t, "last", squareNet(), last, map[bool]int64{true: impl.OK, false: impl.ErrForm}[id > 5])
	}
	for _, id := range []int64{1000000000, 1000000001, math.MaxInt64 - 1, math.MaxInt64} {
		great := changedLits(threeLits(), func(l []impl.Lit) { l[2].Id = id })
		holdLits(t, "great", squareNet(), great, impl.OK)
		holdLits(t, "behind it", squareNet(), append(great, litOf(id, 2, 3, 0, 1, 2)), impl.ErrForm)
	}
}

func TestLitsFaultOfRoutes(t *testing.T) {
	for at := range 3 {
		for _, none := range noFibres() {
			holdLits(t, "no fibre", squareNet(), changedLits(threeLits(), func(l []impl.Lit) { l[at].Path[0] = none }), impl.ErrRange)
		}
		changes := []func(*impl.Lit){
			func(l *impl.Lit) { l.Path = nil },
			func(l *impl.Lit) { l.Path = []int64{} },
			func(l *impl.Lit) { l.To = l.From },
			func(l *impl.Lit) { l.From = l.To },
			func(l *impl.Lit) { l.From = -1 },
			func(l *impl.Lit) { l.From = 4 },
			func(l *impl.Lit) { l.To = 4 },
			func(l *impl.Lit) { l.To = math.MaxInt64 },
			func(l *impl.Lit) { l.From, l.To = l.To+1, l.From },
			func(l *impl.Lit) { l.Path = append(l.Path, l.Path[len(l.Path)-1]) },
			func(l *impl.Lit) { l.Path = append([]int64{2}, l.Path...) },
			func(l *impl.Lit) { l.Path = l.Path[1:] },
		}
		for i, change := range changes {
			lits := changedLits(threeLits(), func(l []impl.Lit) { change(&l[at]) })
			if code := litsCodeByWords(squareNet(), lits); code != impl.ErrForm {
				t.Errorf("change %d of light %d: the words tell %d", i, at, code)
			}
			holdLits(t, "route", squareNet(), lits, impl.ErrForm)
		}
	}
	turned := changedLits(threeLits(), func(l []impl.Lit) { l[0].From, l[0].To, l[0].Path = 2, 0, []int64{1, 0} })
	holdLits(t, "turned round", squareNet(), turned, impl.OK)
}

func TestLitsFaultOfSlots(t *testing.T) {
	const most, least = math.MaxInt64, math.MinInt64
	for _, slots := range []int64{1, 2, 6, 63, 64} {
		n := lineNet(slots)
		for _, width := range []int64{least, -1, 0, 1, 2, slots - 1, slots, slots + 1, 64, 65, 66, 1 << 32, 1<<32 + 1, most - 1, most} {
			for _, first := range []int64{least, least + 1, -2, -1, 0, 1, slots - 1, slots, slots + 1, 63, 64, 65, 1 << 32, most - 1, most} {
				holdLitsByWords(t, "slots", n, []impl.Lit{litOf(1, 0, 1, first, width, 0)})
			}
		}
		holdLits(t, "all slots", n, []impl.Lit{litOf(1, 0, 1, 0, slots, 0)}, impl.OK)
		holdLits(t, "one more", n, []impl.Lit{litOf(1, 0, 1, 0, slots+1, 0)}, impl.ErrRange)
		holdLits(t, "no width", n, []impl.Lit{litOf(1, 0, 1, 0, 0, 0)}, impl.ErrRange)
		holdLits(t, "no width, behind all", n, []impl.Lit{litOf(1, 0, 1, slots, 0, 0)}, impl.ErrRange)
		holdLits(t, "the last slot", n, []impl.Lit{litOf(1, 0, 1, slots-1, 1, 0)}, impl.OK)
		holdLits(t, "behind the last slot", n, []impl.Lit{litOf(1, 0, 1, slots, 1, 0)}, impl.ErrRange)
		holdLits(t, "below 0", n, []impl.Lit{litOf(1, 0, 1, -1, 1, 0)}, impl.ErrRange)
		holdLits(t, "greatest", n, []impl.Lit{litOf(1, 0, 1, most, most, 0)}, impl.ErrRange)
		holdLits(t, "greatest", n, []impl.Lit{litOf(1, 0, 1, 1, most, 0)}, impl.ErrRange)
		holdLits(t, "greatest", n, []impl.Lit{litOf(1, 0, 1, most, 1, 0)}, impl.ErrRange)
		holdLits(t, "least", n, []impl.Lit{litOf(1, 0, 1, least, most, 0)}, impl.ErrRange)
	}
}

// TestLitsFaultOfTakenSlots: all pairs of runs, on one fibre and on paths with one common fibre.
func TestLitsFaultOfTakenSlots(t *testing.T) {
	n := squareNet()
	for first := range int64(6) {
		for width := int64(1); first+width <= 6; width++ {
			for other := range int64(6) {
				for wide := int64(1); other+wide <= 6; wide++ {
					want := int64(impl.OK)
					if first < other+wide && other < first+width {
						want = impl.ErrTaken
					}
					ahead := litOf(1, 0, 2, first, width, 0, 1)
					holdLits(t, "the same path", n, []impl.Lit{ahead, litOf(2, 0, 2, other, wide, 0, 1)}, want)
					holdLits(t, "the way back", n, []impl.Lit{ahead, litOf(2, 2, 0, other, wide, 1, 0)}, want)
					holdLits(t, "its first fibre", n, []impl.Lit{ahead, litOf(2, 1, 3, other, wide, 0, 3)}, want)
					holdLits(t, "its last fibre", n, []impl.Lit{ahead, litOf(2, 1, 0, other, wide, 1, 2, 3)}, want)
					holdLits(t, "the other's last fibre", n, []impl.Lit{ahead, litOf(2, 3, 1, other, wide, 3, 0)}, want)
					holdLits(t, "no fibre in common", n, []impl.Lit{ahead, litOf(2, 0, 2, other, wide, 3, 2)}, impl.OK)
					between := litOf(2, 1, 3, 0, 6, 4)
					holdLits(t, "one between", n, []impl.Lit{ahead, between, litOf(3, 1, 0, other, wide, 0)}, want)
				}
			}
		}
	}
}

// TestLitsFaultsInTheirOrder: light by light, and in each light by its checks.
func TestLitsFaultsInTheirOrder(t *testing.T) {
	n := squareNet()
	spoilers := []func(*impl.Lit){
		func(l *impl.Lit) { l.Id = 0 },
		func(l *impl.Lit) { l.Path[0] = 5 },
		func(l *impl.Lit) { l.To = l.From },
		func(l *impl.Lit) { l.Width = 0 },
		func(l *impl.Lit) { l.First = 6 },
		func(l *impl.Lit) { l.Path, l.From, l.To, l.First = []int64{4}, 3, 1, 0 },
	}
	codes := map[int64]int{}
	for _, first := range spoilers {
		for _, second := range spoilers {
			for at := range 3 {
				for behind := at; behind < 3; behind++ {
					lits := changedLits(threeLits(), func(l []impl.Lit) { second(&l[behind]); first(&l[at]) })
					codes[holdLitsByWords(t, "two faults", n, lits)]++
				}
			}
		}
	}
	if codes[impl.ErrForm] < 40 || codes[impl.ErrRange] < 40 || codes[impl.ErrTaken] < 5 {
		t.Errorf("codes told: %v", codes)
	}
	holdLits(t, "Id ahead of route", n, []impl.Lit{litOf(0, 0, 1, 0, 1, 9)}, impl.ErrForm)
	holdLits(t, "route ahead of width", n, []impl.Lit{litOf(1, 0, 1, 0, 0, 1)}, impl.ErrForm)
	holdLits(t, "width ahead of room", n, []impl.Lit{litOf(1, 0, 1, 0, 6, 0), litOf(2, 0, 1, 0, 7, 0)}, impl.ErrRange)
	holdLits(t, "room ahead of the next one's Id", n, []impl.Lit{litOf(1, 0, 1, 0, 6, 0), litOf(2, 0, 1, 0, 6, 0), litOf(0, 0, 1, 0, 6, 0)}, impl.ErrTaken)
	holdLits(t, "a width ahead of the next one's Id", n, []impl.Lit{litOf(1, 0, 1, 0, 7, 0), litOf(0, 0, 1, 0, 6, 0)}, impl.ErrRange)
	holdLits(t, "Id ahead of room", n, []impl.Lit{litOf(1, 0, 1, 0, 6, 0), litOf(1, 0, 1, 0, 6, 0)}, impl.ErrForm)
}

func TestLitsFaultByWords(t *testing.T) {
	draw := numbers{state: 1820}
	codes := map[int64]int{}
	for range 400 {
		n := drawnNet(&draw, 3+draw.below(4), 1+draw.below(12), 2+int(draw.below(7)), 50)
		lits := drawnLits(&draw, n, 12, 4)
		for range draw.below(3) * int64(min(len(lits), 1)) {
			lit := &lits[draw.below(int64(len(lits)))]
			field := []*int64{&lit.Id, &lit.From, &lit.To, &lit.First, &lit.Width, &lit.Path[0], &lit.First, &lit.Width}[draw.below(8)]
			*field += draw.below(5) - 2
		}
		codes[holdLitsByWords(t, "drawn", n, lits)]++
	}
	if codes[impl.OK] < 50 || codes[impl.ErrForm] < 20 || codes[impl.ErrRange] < 20 || codes[impl.ErrTaken] < 5 {
		t.Errorf("codes told: %v", codes)
	}
}
