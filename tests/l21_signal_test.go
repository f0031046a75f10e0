package tests

import (
	"fmt"
	"math"
	"slices"
	"strings"
	"testing"

	"loop.example/g00049/impl"
)

// hopsOf reads hops as "g03 s10 b1a": the kind (go, full, far by r, seen, back), the node, the fibre as one digit of sixteen.
func hopsOf(text string) []impl.Hop {
	hops := []impl.Hop{}
	for _, word := range strings.Fields(text) {
		kind := map[byte]int64{'g': 1, 'u': 2, 'r': 3, 's': 4, 'b': 5}[word[0]]
		hops = append(hops, impl.Hop{Kind: kind, Node: int64(word[1] - '0'), Fibre: int64(strings.IndexByte("0123456789abcdef", word[2]))})
	}
	return hops
}

func noSignal(code int64) impl.SignalResult {
	return impl.SignalResult{Code: code}
}

// vainSignal has hops with a code.
func vainSignal(code int64, hops []impl.Hop) impl.SignalResult {
	return impl.SignalResult{Code: code, Used: int64(len(hops)), Hops: hops}
}

func toldSignal(hops []impl.Hop, lits ...impl.Lit) impl.SignalResult {
	return impl.SignalResult{Lits: lits, Used: int64(len(hops)), Hops: hops}
}

// signalWords are what the words go by: a node for each list of nodes, with the slots that are left there.
type signalWords struct {
	net    impl.Net
	lits   []impl.Lit
	need   impl.Need
	budget int64
	hops   []impl.Hop
	path   []int64
	first  int64
}

func (w *signalWords) hop(kind int64, node int64, fibre int64) bool {
	if int64(len(w.hops)) >= w.budget {
		return false
	}
	w.hops = append(w.hops, impl.Hop{Kind: kind, Node: node, Fibre: fibre})
	return true
}

// leftOn are the slots of the set from which on all that are needed are nobody's on the fibre.
func (w *signalWords) leftOn(set []int64, fibre int64) []int64 {
	left := []int64{}
	for _, slot := range set {
		free := true
		for s := slot; s < slot+w.need.Width; s++ {
			free = free && ownerByWords(w.lits, fibre, s) == 0
		}
		if free {
			left = append(left, slot)
		}
	}
	return left
}

// from tries the neighbours of the last one of the nodes: ErrNone, if all were in vain.
func (w *signalWords) from(nodes []int64, path []int64, set []int64) int64 {
	node := nodes[len(nodes)-1]
	for place, fibre := range w.net.Fibres {
		if fibre.A != node && fibre.B != node {
			continue
		}
		other, at := fibre.A+fibre.B-node, int64(place)
		further := append(slices.Clone(path), at)
		left := w.leftOn(set, at)
		kind := int64(impl.HopGo)
		if slices.Contains(nodes, other) {
			kind = impl.HopSeen
		} else if kmByWords(w.net, further) > w.need.Reach {
			kind = impl.HopFar
		} else if len(left) == 0 {
			kind = impl.HopFull
		}
		if !w.hop(kind, node, at) {
			return impl.ErrMany
		}
		if kind != impl.HopGo {
			continue
		}
		if other == w.need.To {
			w.path, w.first = further, left[0]
			return impl.OK
		}
		if code := w.from(append(slices.Clone(nodes), other), further, left); code != impl.ErrNone {
			return code
		}
		if !w.hop(impl.HopBack, other, at) {
			return impl.ErrMany
		}
	}
	return impl.ErrNone
}

func signalByWords(n impl.Net, lits []impl.Lit, need impl.Need, budget int64) impl.SignalResult {
	if code := needCodeByWords(n, lits, need); code != impl.OK {
		return noSignal(code)
	}
	if budget < 1 || budget > 20000 {
		return noSignal(impl.ErrRange)
	}
	words := signalWords{net: n, lits: lits, need: need, budget: budget}
	set := []int64{}
	for slot := int64(0); slot+need.Width <= n.Slots; slot++ {
		set = append(set, slot)
	}
	code := words.from([]int64{need.From}, nil, set)
	if code != impl.OK {
		return vainSignal(code, words.hops)
	}
	lit := litOf(need.Id, need.From, need.To, words.first, need.Width, words.path...)
	return toldSignal(words.hops, byId(lits, lit)...)
}

func holdSignal(t *testing.T, what string, n impl.Net, lits []impl.Lit, need impl.Need, budget int64, want impl.SignalResult) {
	t.Helper()
	ask := func(a netArgs) impl.SignalResult { return impl.SignalUp(a.net, a.lits, need, budget) }
	holdNet(t, fmt.Sprint(what, ", SignalUp of ", need, " by ", budget), netArgs{net: n, lits: lits}, ask, want)
	if told := signalByWords(n, lits, need, budget); fmt.Sprint(told) != fmt.Sprint(want) {
		t.Errorf("%s: the words tell %s of %v, not %s", what, brief(told), need, brief(want))
	}
}

// holdBudgets: as many hops as are needed are enough, and with any fewer it ends behind the last one there is.
func holdBudgets(t *testing.T, what string, n impl.Net, lits []impl.Lit, need impl.Need, want impl.SignalResult) {
	t.Helper()
	for _, budget := range []int64{impl.MaxHops, max(want.Used+1, 1), max(want.Used, 1)} {
		holdSignal(t, what, n, lits, need, budget, want)
	}
	for budget := want.Used - 1; budget >= 1; budget = min(budget-1, budget*7/8) {
		holdSignal(t, what+", cut short", n, lits, need, budget, vainSignal(impl.ErrMany, want.Hops[:budget]))
	}
}

// fullOf are lights of all slots on each one of the fibres.
func fullOf(n impl.Net, fibres ...int64) []impl.Lit {
	lits := []impl.Lit{}
	for i, place := range fibres {
		lits = append(lits, litOf(int64(100+i), n.Fibres[place].A, n.Fibres[place].B, 0, n.Slots, place))
	}
	return lits
}

func TestSignalTold(t *testing.T) {
	three := netOf(3, 4, fibreOf(0, 1, 10), fibreOf(1, 2, 10), fibreOf(0, 2, 30))
	holdBudgets(t, "by two", three, nil, needOf(1, 0, 2, 1, 25), toldSignal(hopsOf("g00 s10 g11"), litOf(1, 0, 2, 0, 1, 0, 1)))
	holdBudgets(t, "too far at once", three, nil, needOf(1, 0, 2, 1, 5), vainSignal(impl.ErrNone, hopsOf("r00 r02")))
	holdSignal(t, "one hop", three, nil, needOf(1, 0, 2, 1, 25), 1, vainSignal(impl.ErrMany, hopsOf("g00")))
	n := squareNet()
	holdBudgets(t, "by the first fibres", n, nil, needOf(1, 0, 2, 2, 1000), toldSignal(hopsOf("g00 s10 g11"), litOf(1, 0, 2, 0, 2, 0, 1)))
	holdBudgets(t, "not the nearest way", n, []impl.Lit{}, needOf(1, 0, 3, 1, 1000), toldSignal(hopsOf("g00 s10 g11 s21 g22"), litOf(1, 0, 3, 0, 1, 0, 1, 2)))
	holdBudgets(t, "the other way round", n, nil, needOf(1, 2, 0, 6, 1000), toldSignal(hopsOf("g21 g10"), litOf(1, 2, 0, 0, 6, 1, 0)))
	holdBudgets(t, "one hop is all", n, nil, needOf(9, 1, 0, 1, 10), toldSignal(hopsOf("g10"), litOf(9, 1, 0, 0, 1, 0)))
	lits := []impl.Lit{litOf(7, 1, 2, 0, 4, 1)}
	holdBudgets(t, "past a full one", n, lits, needOf(9, 0, 2, 3, 1000), toldSignal(hopsOf("g00 s10 u11 g14 g32"), lits[0], litOf(9, 0, 2, 0, 3, 0, 4, 2)))
	holdBudgets(t, "beside a light", n, lits, needOf(5, 0, 2, 2, 1000), toldSignal(hopsOf("g00 s10 g11"), litOf(5, 0, 2, 4, 2, 0, 1), lits[0]))
}

// TestSignalGoesBack: nodes all of whose neighbours were tried in vain.
func TestSignalGoesBack(t *testing.T) {
	n := squareNet()
	shut := fullOf(n, 1, 2)
	want := hopsOf("g00 s10 u11 g14 u32 s33 s34 b34 b10 g03 u32 s33 g34 s10 u11 s14 b14 b33")
	holdBudgets(t, "back at From", n, shut, needOf(1, 0, 2, 1, 1000), vainSignal(impl.ErrNone, want))
	dead := netOf(5, 4, fibreOf(0, 1, 1), fibreOf(1, 2, 1), fibreOf(2, 3, 1), fibreOf(0, 4, 1))
	holdBudgets(t, "back over three", dead, nil, needOf(1, 0, 4, 4, 1000), toldSignal(hopsOf("g00 s10 g11 s21 g22 s32 b32 b21 b10 g03"), litOf(1, 0, 4, 0, 4, 3)))
	fork := netOf(5, 4, fibreOf(3, 4, 1), fibreOf(1, 3, 1), fibreOf(0, 1, 1), fibreOf(1, 2, 1))
	holdBudgets(t, "back to the middle", fork, nil, needOf(1, 0, 2, 1, 1000), toldSignal(hopsOf("g02 g11 g30 s40 b40 s31 b31 s12 g13"), litOf(1, 0, 2, 0, 1, 2, 3)))
	holdBudgets(t, "no way on at all", fork, nil, needOf(1, 4, 2, 1, 1), vainSignal(impl.ErrNone, hopsOf("g40 s30 r31 b30")))
	holdBudgets(t, "far from From", fork, fullOf(fork, 3), needOf(1, 4, 2, 1, 9), vainSignal(impl.ErrNone, hopsOf("g40 s30 g31 s11 g12 s02 b02 u13 b11 b30")))
	twice := netOf(4, 4, fibreOf(0, 1, 1), fibreOf(0, 2, 1), fibreOf(1, 2, 1), fibreOf(2, 3, 1))
	holdBudgets(t, "a node that was left may be come to again", twice, []impl.Lit{litOf(7, 0, 1, 0, 2, 0), litOf(8, 2, 3, 2, 2, 3)}, needOf(9, 0, 3, 2, 1000),
		toldSignal(hopsOf("g00 s10 g12 s21 s22 u23 b22 b10 g01 s21 g22 s10 s12 b12 g23"), litOf(7, 0, 1, 0, 2, 0), litOf(8, 2, 3, 2, 2, 3), litOf(9, 0, 3, 0, 2, 1, 3)))
}

// TestSignalOfNodesThatAreNotJoined: without a neighbour there is no hop, and none is needed.
func TestSignalOfNodesThatAreNotJoined(t *testing.T) {
	holdBudgets(t, "no fibre", netOf(2, 4), nil, needOf(1, 0, 1, 1, 1000), vainSignal(impl.ErrNone, nil))
	n := netOf(5, 4, fibreOf(1, 2, 1), fibreOf(2, 3, 1))
	holdBudgets(t, "From alone", n, nil, needOf(1, 0, 2, 1, 1000), vainSignal(impl.ErrNone, nil))
	holdBudgets(t, "From alone, the last one", n, nil, needOf(1, 4, 1, 4, 1000), vainSignal(impl.ErrNone, nil))
	holdBudgets(t, "To alone", n, nil, needOf(1, 2, 4, 1, 1000), vainSignal(impl.ErrNone, hopsOf("g20 s10 b10 g21 s31 b31")))
}

// TestSignalKinds: where several hold at one neighbour, that the way was there is told first, then far, then full.
func TestSignalKinds(t *testing.T) {
	pair := lineNet(4)
	full := fullOf(pair, 0)
	holdBudgets(t, "full", pair, full, needOf(1, 0, 1, 1, 10), vainSignal(impl.ErrNone, hopsOf("u00")))
	holdBudgets(t, "far", pair, nil, needOf(1, 0, 1, 1, 9), vainSignal(impl.ErrNone, hopsOf("r00")))
	holdBudgets(t, "far and full", pair, full, needOf(1, 0, 1, 1, 9), vainSignal(impl.ErrNone, hopsOf("r00")))
	ring := netOf(4, 4, fibreOf(0, 1, 10), fibreOf(1, 2, 10), fibreOf(0, 2, 40))
	holdBudgets(t, "seen alone, then seen and far", ring, nil, needOf(1, 0, 3, 1, 40), vainSignal(impl.ErrNone, hopsOf("g00 s10 g11 s21 s22 b21 b10 g02 r21 s22 b22")))
	holdBudgets(t, "seen and full", ring, fullOf(ring, 2), needOf(1, 0, 3, 1, 60), vainSignal(impl.ErrNone, hopsOf("g00 s10 g11 s21 s22 b21 b10 u02")))
	holdBudgets(t, "seen, far and full", ring, fullOf(ring, 2), needOf(1, 0, 3, 1, 20), vainSignal(impl.ErrNone, hopsOf("g00 s10 g11 s21 s22 b21 b10 r02")))
	holdBudgets(t, "far and full behind a fibre", ring, fullOf(ring, 1), needOf(1, 0, 3, 1, 19), vainSignal(impl.ErrNone, hopsOf("g00 s10 r11 b10 r02")))
	holdBudgets(t, "full behind a fibre", ring, fullOf(ring, 1), needOf(1, 0, 3, 1, 20), vainSignal(impl.ErrNone, hopsOf("g00 s10 u11 b10 r02")))
	holdBudgets(t, "To itself is full, far", ring, fullOf(ring, 2), needOf(1, 1, 2, 4, 50), toldSignal(hopsOf("g10 s00 u02 b00 g11"), litOf(1, 1, 2, 0, 4, 1), fullOf(ring, 2)[0]))
}

// TestSignalWithinReach: just as far as may be, and one km too far.
func TestSignalWithinReach(t *testing.T) {
	n := rowNet(4)
	holdBudgets(t, "just", n, nil, needOf(1, 0, 3, 1, 30), toldSignal(hopsOf("g00 s10 g11 s21 g22"), litOf(1, 0, 3, 0, 1, 0, 1, 2)))
	holdBudgets(t, "one less", n, nil, needOf(1, 0, 3, 1, 29), toldSignal(hopsOf("g00 s10 g11 s21 r22 b21 b10 g03"), litOf(1, 0, 3, 0, 1, 3)))
	holdBudgets(t, "one more", n, nil, needOf(1, 0, 3, 1, 31), toldSignal(hopsOf("g00 s10 g11 s21 g22"), litOf(1, 0, 3, 0, 1, 0, 1, 2)))
	holdBudgets(t, "one fibre just", n, nil, needOf(1, 0, 3, 1, 10), toldSignal(hopsOf("g00 s10 r11 b10 g03"), litOf(1, 0, 3, 0, 1, 3)))
	holdBudgets(t, "one fibre one less", n, nil, needOf(1, 0, 3, 1, 9), vainSignal(impl.ErrNone, hopsOf("r00 r03")))
	holdBudgets(t, "as near as may be", n, nil, needOf(1, 0, 3, 1, 1), vainSignal(impl.ErrNone, hopsOf("r00 r03")))
	far := netOf(8, 1)
	path := []int64{}
	for i := range int64(7) {
		far.Fibres = append(far.Fibres, fibreOf(i, i+1, 100000))
		path = append(path, i)
	}
	along := hopsOf("g00 s10 g11 s21 g22 s32 g33 s43 g44 s54 g55 s65")
	for _, reach := range []int64{700000, 700001, 1 << 32, math.MaxInt64 - 1, math.MaxInt64} {
		holdBudgets(t, "the longest", far, nil, needOf(1, 0, 7, 1, reach), toldSignal(append(slices.Clone(along), hopsOf("g66")...), litOf(1, 0, 7, 0, 1, path...)))
	}
	back := append(slices.Clone(along), hopsOf("r66 b65 b54 b43 b32 b21 b10")...)
	holdBudgets(t, "the longest, one less", far, nil, needOf(1, 0, 7, 1, 699999), vainSignal(impl.ErrNone, back))
}

// stairLits leave slots of a row's fibres free, of each one others.
func stairLits(runs ...[3]int64) []impl.Lit {
	lits := []impl.Lit{}
	for i, run := range runs {
		lits = append(lits, litOf(int64(10+i), run[0], run[0]+1, run[1], run[2], run[0]))
	}
	return lits
}

// lineOf is a line of so many nodes.
func lineOf(nodes int64, slots int64) impl.Net {
	n := netOf(nodes, slots)
	for i := range nodes - 1 {
		n.Fibres = append(n.Fibres, fibreOf(i, i+1, 1))
	}
	return n
}

// TestSignalOfSlots: Width on the slots that the fibres of the way leave alone.
func TestSignalOfSlots(t *testing.T) {
	n := lineOf(4, 8)
	hops := hopsOf("g00 s10 g11 s21 g22")
	shrink := stairLits([3]int64{0, 0, 3}, [3]int64{1, 4, 1}, [3]int64{2, 6, 1})
	holdBudgets(t, "from one slot", n, shrink, needOf(1, 0, 3, 1, 9), toldSignal(hops, append([]impl.Lit{litOf(1, 0, 3, 3, 1, 0, 1, 2)}, shrink...)...))
	holdBudgets(t, "none for two", n, shrink, needOf(1, 0, 3, 2, 9), vainSignal(impl.ErrNone, hopsOf("g00 s10 g11 s21 u22 b21 b10")))
	holdBudgets(t, "none for three", n, shrink, needOf(1, 0, 3, 3, 9), vainSignal(impl.ErrNone, hopsOf("g00 s10 g11 s21 u22 b21 b10")))
	holdBudgets(t, "none for four", n, shrink, needOf(1, 0, 3, 4, 9), vainSignal(impl.ErrNone, hopsOf("g00 s10 u11 b10")))
	holdBudgets(t, "none for six", n, shrink, needOf(1, 0, 3, 6, 9), vainSignal(impl.ErrNone, hopsOf("u00")))
	last := stairLits([3]int64{0, 0, 4}, [3]int64{1, 1, 6}, [3]int64{2, 3, 4})
	holdBudgets(t, "the last slot", n, last, needOf(50, 0, 3, 1, 9), toldSignal(hops, append(copyOfLits(last), litOf(50, 0, 3, 7, 1, 0, 1, 2))...))
	two := stairLits([3]int64{0, 0, 4}, [3]int64{1, 1, 5}, [3]int64{2, 2, 4})
	holdBudgets(t, "the last two", n, two, needOf(50, 0, 3, 2, 9), toldSignal(hops, append(copyOfLits(two), litOf(50, 0, 3, 6, 2, 0, 1, 2))...))
	holdBudgets(t, "the last two, for three", n, two, needOf(50, 0, 3, 3, 9), vainSignal(impl.ErrNone, hopsOf("g00 s10 u11 b10")))
	none := stairLits([3]int64{0, 0, 4}, [3]int64{1, 4, 4})
	holdBudgets(t, "none in common", n, none, needOf(50, 0, 3, 1, 9), vainSignal(impl.ErrNone, hopsOf("g00 s10 u11 b10")))
	one := stairLits([3]int64{0, 0, 3}, [3]int64{1, 5, 3}, [3]int64{2, 3, 1})
	holdBudgets(t, "one by one, one slot is left", n, one, needOf(50, 0, 3, 1, 9), toldSignal(hops, append(copyOfLits(one), litOf(50, 0, 3, 4, 1, 0, 1, 2))...))
	more := append(copyOfLits(one), litOf(13, 3, 2, 4, 1, 2))
	holdBudgets(t, "one by one, none is left", n, more, needOf(50, 0, 3, 1, 9), vainSignal(impl.ErrNone, hopsOf("g00 s10 g11 s21 u22 b21 b10")))
	holdBudgets(t, "all of them", n, nil, needOf(50, 3, 0, 8, 9), toldSignal(hopsOf("g32 g21 g10"), litOf(50, 3, 0, 0, 8, 2, 1, 0)))
}

// TestSignalOfOneFree: a fibre's only free run, wherever it lies, has room for what is no wider.
func TestSignalOfOneFree(t *testing.T) {
	for _, slots := range []int64{1, 2, 7, 63, 64} {
		for _, run := range []int64{1, 2, 5, 31, 32, 33, 63, 64} {
			for _, first := range []int64{0, 1, 2, slots / 2, slots - run - 1, slots - run} {
				if run > slots || first < 0 || first+run > slots {
					continue
				}
				n, lits := lineNet(slots), []impl.Lit{}
				if first > 0 {
					lits = append(lits, litOf(1, 0, 1, 0, first, 0))
				}
				if first+run < slots {
					lits = append(lits, litOf(2, 1, 0, first+run, slots-first-run, 0))
				}
				for _, width := range []int64{1, run - 1, run, run + 1, slots} {
					want := vainSignal(impl.ErrNone, hopsOf("u00"))
					if width <= run {
						want = toldSignal(hopsOf("g00"), append(copyOfLits(lits), litOf(3, 0, 1, first, width, 0))...)
					}
					if width >= 1 && width <= slots {
						holdSignal(t, "one run", n, lits, needOf(3, 0, 1, width, 10), 1, want)
					}
				}
			}
		}
	}
}

// TestSignalTakesSlotsBack: what a way left to no slot is free again on another way.
func TestSignalTakesSlotsBack(t *testing.T) {
	n := netOf(4, 4, fibreOf(0, 1, 1), fibreOf(1, 2, 1), fibreOf(0, 2, 1), fibreOf(2, 3, 1))
	lits := []impl.Lit{litOf(1, 0, 1, 0, 2, 0), litOf(2, 2, 3, 2, 2, 3)}
	holdBudgets(t, "the other slots", n, lits, needOf(3, 0, 3, 2, 9), toldSignal(hopsOf("g00 s10 g11 s21 s22 u23 b21 b10 g02 g21 s10 s11 b11 s22 g23"), append(copyOfLits(lits), litOf(3, 0, 3, 0, 2, 2, 3))...))
	low := []impl.Lit{litOf(1, 0, 1, 0, 3, 0), litOf(2, 2, 3, 3, 1, 3)}
	holdBudgets(t, "the least slot again", n, low, needOf(3, 0, 3, 1, 9), toldSignal(hopsOf("g00 s10 g11 s21 s22 u23 b21 b10 g02 g21 s10 s11 b11 s22 g23"), append(copyOfLits(low), litOf(3, 0, 3, 0, 1, 2, 3))...))
	far := netOf(4, 4, fibreOf(0, 1, 5), fibreOf(1, 2, 5), fibreOf(0, 2, 4), fibreOf(2, 3, 5))
	holdBudgets(t, "the km again", far, nil, needOf(3, 0, 3, 4, 14), toldSignal(hopsOf("g00 s10 g11 s21 s22 r23 b21 b10 g02 g21 s10 s11 b11 s22 g23"), litOf(3, 0, 3, 0, 4, 2, 3)))
}

// TestSignalPlaces: the new light lies by Id among the others.
func TestSignalPlaces(t *testing.T) {
	n, lits := squareNet(), threeLits()
	for place, id := range []int64{1, 2, 4, 6, 899, 901, 999999999, 1000000000} {
		at := []int{0, 0, 1, 2, 2, 3, 3, 3}[place]
		want := slices.Insert(copyOfLits(lits), at, litOf(id, 2, 3, 0, 6, 2))
		holdSignal(t, "an Id", n, lits, needOf(id, 2, 3, 6, 30), 100, toldSignal(hopsOf("u21 g22"), want...))
	}
}
