package tests

import (
	"fmt"
	"slices"
	"strconv"
	"strings"
	"testing"

	"loop.example/g00049/impl"
)

// fourListsBench has, if fibre 0 is cut, a guard that is switched, one that is bare, one that is left alone, a light that finds another way and one that finds none.
func fourListsBench() impl.Bench {
	n := netOf(4, 4, fibreOf(0, 1, 10), fibreOf(1, 2, 10), fibreOf(0, 2, 30), fibreOf(2, 3, 5), fibreOf(1, 3, 8))
	lits := []impl.Lit{
		litOf(1, 0, 1, 0, 1, 0), litOf(2, 0, 1, 0, 1, 2, 1), litOf(3, 1, 0, 1, 1, 1, 2), litOf(4, 1, 0, 1, 1, 0),
		litOf(5, 1, 3, 3, 1, 1, 3), litOf(6, 1, 3, 0, 1, 4), litOf(7, 0, 1, 2, 1, 0), litOf(8, 1, 0, 3, 1, 0), litOf(9, 2, 3, 0, 2, 3),
	}
	return benchOf(n, lits, []impl.Guard{guardOf(3, 4), guardOf(6, 5), guardOf(1, 2)}, threeSettings()...)
}

func TestStepOfFailTold(t *testing.T) {
	b := fourListsBench()
	holdSaid(t, b, "fail 0", "fail 0 switched 1 bare 3 rerouted 7 lost 8", func(b *impl.Bench) {
		l := b.Lits
		b.Lits = []impl.Lit{l[1], l[2], l[4], l[5], litOf(7, 0, 1, 2, 1, 2, 1), l[8]}
		b.Guards = b.Guards[1:2]
	})
	b.Net.Slots = 5
	holdSaid(t, b, "fail 0", "fail 0 switched 1 bare 3 rerouted 7 8 lost", func(b *impl.Bench) {
		l := b.Lits
		b.Lits = []impl.Lit{l[1], l[2], l[4], l[5], litOf(7, 0, 1, 2, 1, 2, 1), litOf(8, 1, 0, 4, 1, 1, 2), l[8]}
		b.Guards = b.Guards[1:2]
	})
}

// TestStepOfFailLists: each of the four lists empty and not, and guards that stay and go.
func TestStepOfFailLists(t *testing.T) {
	b := squareBench()
	holdSaid(t, b, "fail 0", "fail 0 switched 10 bare 21 rerouted lost", func(b *impl.Bench) {
		l := b.Lits
		b.Lits, b.Guards = []impl.Lit{l[0], l[2], l[4], l[5]}, nil
	})
	holdSaid(t, b, "fail 1", "fail 1 switched 10 bare rerouted lost", func(b *impl.Bench) {
		b.Lits, b.Guards = slices.Delete(b.Lits, 1, 2), b.Guards[:1]
	})
	holdSaid(t, b, "fail 2", "fail 2 switched bare 10 rerouted 30 lost", func(b *impl.Bench) {
		l := b.Lits
		b.Lits, b.Guards = []impl.Lit{l[0], l[1], l[3], l[4], litOf(30, 2, 0, 3, 2, 1, 0)}, b.Guards[:1]
	})
	alone := changedBench(b, func(b *impl.Bench) { b.Guards = nil })
	want := holdStepByWords(t, alone, "fail 4")
	if want.Code != impl.OK || !strings.HasPrefix(want.Say, "fail 4 switched bare rerouted ") {
		t.Errorf("the words tell %q", want.Say)
	}
	unlit := changedBench(b, func(b *impl.Bench) { b.Guards, b.Lits = nil, nil })
	for fibre := range 5 {
		holdStep(t, unlit, fmt.Sprint("fail ", fibre), toldStep(fmt.Sprintf("fail %d switched bare rerouted lost", fibre), unlit))
	}
	line := benchOf(lineNet(64), thinLits(3), nil)
	holdSaid(t, line, "fail 000", "fail 0 switched bare rerouted lost 2 5 8", func(b *impl.Bench) { b.Lits = nil })
	holdRefused(t, b, impl.ErrRange, "fail 5", "fail 6", "fail 9999999999", "fail 4294967296")
	holdRefused(t, benchOf(netOf(1, 1), nil, nil), impl.ErrRange, "fail 0", "fail 1")
}

// TestStepOfFailBesideTheLeastIds: a guard stays wherever its two lights stand, the first place of the list among them.
func TestStepOfFailBesideTheLeastIds(t *testing.T) {
	n := netOf(4, 4, fibreOf(0, 1, 10), fibreOf(1, 2, 10), fibreOf(0, 2, 30), fibreOf(2, 3, 5))
	short, long := []int64{0}, []int64{2, 1}
	for _, ids := range [][]int64{{1, 2}, {2, 1}, {1, 9}, {9, 1}} {
		work, spare := litOf(ids[0], 0, 1, 0, 1, short...), litOf(ids[1], 0, 1, 0, 1, long...)
		lits := []impl.Lit{work, spare}
		if ids[0] > ids[1] {
			lits = []impl.Lit{spare, work}
		}
		b := benchOf(n, lits, []impl.Guard{guardOf(ids[0], ids[1])})
		holdSaid(t, b, "fail 3", "fail 3 switched bare rerouted lost", func(*impl.Bench) {})
		holdSaid(t, b, "fail 0", fmt.Sprintf("fail 0 switched %d bare rerouted lost", ids[0]), func(b *impl.Bench) {
			b.Lits, b.Guards = []impl.Lit{spare}, nil
		})
		holdSaid(t, b, "fail 1", fmt.Sprintf("fail 1 switched bare %d rerouted lost", ids[0]), func(b *impl.Bench) {
			b.Lits, b.Guards = []impl.Lit{work}, nil
		})
	}
}

// listTold is one of the lists behind its word.
func listTold(say string, word string, next string) []int64 {
	_, behind, _ := strings.Cut(say, " "+word)
	list, _, _ := strings.Cut(behind, next)
	numbers := []int64{}
	for _, told := range strings.Fields(list) {
		number, _ := strconv.ParseInt(told, 10, 64)
		numbers = append(numbers, number)
	}
	return numbers
}

// holdBenchPromise: each guard has one light at least of its two, none passes the fibre, all else stays or is told; the guards that stay are those with both. It answers how many ids were told.
func holdBenchPromise(t *testing.T, b impl.Bench, fibre int) int {
	t.Helper()
	got := impl.StepBench(b, fmt.Sprint("fail ", fibre))
	if got.Code != impl.OK || impl.BenchFault(got.Bench) != impl.OK || fmt.Sprint(got.Bench.Net, got.Bench.Settings) != fmt.Sprint(b.Net, b.Settings) {
		t.Errorf("fail %d of %s: %s", fibre, brief(b), brief(got))
	}
	switched, bare := listTold(got.Say, "switched", "bare"), listTold(got.Say, "bare", "rerouted")
	rerouted, lost := listTold(got.Say, "rerouted", "lost"), listTold(got.Say, "lost", "\n")
	whole := []impl.Guard{}
	for _, guard := range b.Guards {
		_, hasWork := litById(got.Bench.Lits, guard.Work)
		_, hasSpare := litById(got.Bench.Lits, guard.Spare)
		if !hasWork && !hasSpare || hasWork == slices.Contains(switched, guard.Work) || hasSpare == slices.Contains(bare, guard.Work) {
			t.Errorf("%q: guard %v, Work %v, Spare %v", got.Say, guard, hasWork, hasSpare)
		}
		if hasWork && hasSpare {
			whole = append(whole, guard)
		}
	}
	if !slices.Equal(whole, got.Bench.Guards) {
		t.Errorf("%q: the guards are %v, not %v", got.Say, got.Bench.Guards, whole)
	}
	for _, lit := range b.Lits {
		now, there := litById(got.Bench.Lits, lit.Id)
		guarded, dark := slices.Contains(idsOf(b.Guards), lit.Id), slices.Contains(lit.Path, int64(fibre))
		stays := !dark && fmt.Sprint(now) == fmt.Sprint(lit)
		if !guarded && there == slices.Contains(lost, lit.Id) || dark && slices.Contains(now.Path, int64(fibre)) || !stays && !dark {
			t.Errorf("%q: light %v became %v", got.Say, lit, now)
		}
		if !guarded && (dark && there) != slices.Contains(rerouted, lit.Id) || guarded && there == dark {
			t.Errorf("%q: light %v became %v", got.Say, lit, now)
		}
	}
	return len(switched) + len(bare) + len(rerouted) + len(lost)
}

// drawnBench is set up line by line, till there is little room.
func drawnBench(draw *numbers) impl.Bench {
	b := benchOf(drawnNet(draw, 4+draw.below(4), 6+draw.below(12), 6+int(draw.below(6)), 30), nil, nil, threeSettings()...)
	for id := int64(1); id < 40; id += 2 {
		from, to, width := draw.below(b.Net.Nodes), draw.below(b.Net.Nodes), 1+draw.below(3)
		for _, word := range shuffled(draw, []string{"guard", "up"}) {
			step := impl.StepBench(b, fmt.Sprint(word, " ", id, " ", from, " ", to, " ", width, " 1000"))
			if step.Code == impl.OK {
				b = step.Bench
				break
			}
		}
	}
	return b
}

// TestStepOfFailOfAnyFibre: each fibre of a bench that is set up, and then each second one.
func TestStepOfFailOfAnyFibre(t *testing.T) {
	draw := numbers{state: 2420}
	told := 0
	for range 15 {
		b := drawnBench(&draw)
		for fibre := range b.Net.Fibres {
			told += holdBenchPromise(t, b, fibre)
			want := holdStepByWords(t, b, fmt.Sprint("fail ", fibre))
			for second := range b.Net.Fibres {
				holdBenchPromise(t, want.Bench, second)
			}
		}
	}
	for _, b := range []impl.Bench{squareBench(), fourListsBench()} {
		for fibre := range b.Net.Fibres {
			told += holdBenchPromise(t, b, fibre)
			holdStepByWords(t, b, fmt.Sprint("fail ", fibre))
		}
	}
	if told < 300 {
		t.Errorf("%d lights and guards were hit", told)
	}
}
