package tests

import (
	"fmt"
	"slices"
	"strings"
	"testing"

	"loop.example/g00049/impl"
)

// holdSaid has a line say that, and the bench be changed so, and in nothing else.
func holdSaid(t *testing.T, b impl.Bench, line string, say string, change func(*impl.Bench)) {
	t.Helper()
	holdStep(t, b, line, toldStep(say, changedBench(b, change)))
}

// holdRefused has lines answer a code, and nothing beside it.
func holdRefused(t *testing.T, b impl.Bench, code int64, lines ...string) {
	t.Helper()
	for _, line := range lines {
		holdStep(t, b, line, noStep(code))
	}
}

// withoutNet are benches that have no net.
func withoutNet() []impl.Bench {
	return []impl.Bench{{}, benchOf(impl.Net{}, nil, nil, threeSettings()...), benchOf(netOf(0, 0), []impl.Lit{}, []impl.Guard{}, manySettings(50)...)}
}

func TestStepOfNet(t *testing.T) {
	for _, b := range withoutNet() {
		for _, size := range [][2]int64{{1, 1}, {8, 64}, {3, 4}, {1, 64}, {8, 1}} {
			holdSaid(t, b, fmt.Sprint("net ", size[0], " ", size[1]), "net", func(b *impl.Bench) { b.Net = netOf(size[0], size[1]) })
		}
		holdSaid(t, b, "  net  003 0000000004 ", "net", func(b *impl.Bench) { b.Net = netOf(3, 4) })
		holdRefused(t, b, impl.ErrForm, "net 0 0", "net 0 1", "net 1 0", "net 8 0", "net 0 65", "net 1 65", "net 8 65", "net 8 9999999999", "net 0000000000 1", "net 3 4294967297")
		holdRefused(t, b, impl.ErrMany, "net 9 1", "net 9 0", "net 9 65", "net 10 64", "net 4294967297 1", "net 9999999999 9999999999")
	}
	for _, b := range []impl.Bench{squareBench(), benchOf(netOf(1, 1), nil, nil)} {
		holdRefused(t, b, impl.ErrForm, "net 1 1", "net 3 4", "net 4 6", "net 0 0", "net 9 1", "net 9 65", "net 9999999999 1")
	}
}

func TestStepOfFibre(t *testing.T) {
	b := benchOf(netOf(8, 4), nil, nil, threeSettings()...)
	for at, f := range joinedNet(8, 4, 14).Fibres {
		line := fmt.Sprintf("fibre %d %d %d", f.A, f.B, 100000-at)
		holdSaid(t, b, line, fmt.Sprint("fibre ", at), func(b *impl.Bench) { b.Net.Fibres = append(b.Net.Fibres, fibreOf(f.A, f.B, int64(100000-at))) })
		b = impl.StepBench(b, line).Bench
		if at < 13 {
			holdRefused(t, b, impl.ErrForm, "fibre 0 0 1", "fibre 1 0 1", "fibre 7 6 9", "fibre 5 5 1", "fibre 6 8 1", "fibre 8 9 1", "fibre 6 7 0", "fibre 6 7 100001", "fibre 6 7 9999999999", "fibre 6 9999999999 1", line)
		}
	}
	holdRefused(t, b, impl.ErrMany, "fibre 6 7 1", "fibre 0 1 1", "fibre 0 0 0", "fibre 8 9 0", "fibre 7 6 100001")
	b.Lits = []impl.Lit{litOf(3, 0, 1, 0, 1, 0)}
	holdRefused(t, b, impl.ErrForm, "fibre 6 7 1", "fibre 0 0 0")
	holdRefused(t, squareBench(), impl.ErrForm, "fibre 0 2 10", "fibre 0 1 10", "fibre 0 0 0")
	dark := changedBench(squareBench(), func(b *impl.Bench) { b.Lits, b.Guards = nil, nil })
	holdSaid(t, dark, "fibre 0 2 10", "fibre 5", func(b *impl.Bench) { b.Net.Fibres = append(b.Net.Fibres, fibreOf(0, 2, 10)) })
}

// netLines are lines of the calls on a net, with numbers that have each of them answer another code if there is a net.
func netLines() []string {
	return []string{
		"fibre 0 1 1", "fibre 0 0 0", "fibre 9 9 9", "up 1 0 1 1 10", "up 0 0 0 0 0", "up 1 0 1 0 0", "signal 1 0 1 1 10 10", "signal 1 0 1 1 10 0", "signal 1 0 1 1 1 20001", "signal 0 0 0 0 0 0",
		"put 1 0 1 0 1 0", "put 0 0 1 0 1 0", "put 1 0 0 0 0 0", "put 9999999999 9 9 9 9 9 9", "down 0", "down 1", "down 9999999999", "guard 1 0 1 1 10", "guard 0 0 0 0 0", "guard 9999999999 9 9 0 0",
		"pair 1 2", "pair 0 0", "pair 1 1", "undo 0", "undo 1", "fail 0", "fail 14", "fail 9999999999", "slide 1 0", "slide 0 0", "slide 1 9999999999", "tidy",
	}
}

func TestStepsWithoutANet(t *testing.T) {
	for _, b := range withoutNet() {
		holdRefused(t, b, impl.ErrForm, netLines()...)
		holdStep(t, b, "show", toldStep("show 0 0 0", b))
		holdStep(t, b, "# show", toldStep("", b))
	}
	answers := map[string][]int64{}
	for _, b := range []impl.Bench{squareBench(), benchOf(netOf(2, 2), nil, nil)} {
		for _, line := range netLines() {
			word := strings.Fields(line)[0]
			answers[word] = append(answers[word], holdStepByWords(t, b, line).Code)
		}
	}
	for word, codes := range answers {
		if !slices.ContainsFunc(codes, func(code int64) bool { return code != impl.ErrForm }) {
			t.Errorf("%s answers ErrForm with a net, too", word)
		}
	}
}

func TestStepOfUp(t *testing.T) {
	b := squareBench()
	holdSaid(t, b, "up 40 0 1 1 10", "up 40 3 0", func(b *impl.Bench) { b.Lits = append(b.Lits, litOf(40, 0, 1, 3, 1, 0)) })
	holdSaid(t, b, "up 0000000007 0 2 2 1000000000", "up 7 3 0 1", func(b *impl.Bench) { b.Lits = byId(b.Lits, litOf(7, 0, 2, 3, 2, 0, 1)) })
	holdSaid(t, b, "up 1 2 1 4 20", "up 1 2 1", func(b *impl.Bench) { b.Lits = byId(b.Lits, litOf(1, 2, 1, 2, 4, 1)) })
	holdSaid(t, b, "up 1000000000 0 3 3 9999999999", "up 1000000000 3 0 4", func(b *impl.Bench) { b.Lits = append(b.Lits, litOf(1000000000, 0, 3, 3, 3, 0, 4)) })
}

// TestStepOfUpRefused: each code of LightUp.
func TestStepOfUpRefused(t *testing.T) {
	b := squareBench()
	holdRefused(t, b, impl.ErrForm, "up 0 0 1 1 10", "up 10 0 1 1 10", "up 5 0 1 0 0", "up 1000000001 0 1 1 10", "up 9999999999 0 1 1 10", "up 40 0 0 1 10", "up 40 4 1 1 10", "up 40 0 4 1 10", "up 40 0 4 0 0", "up 40 9 9 9 0")
	holdRefused(t, b, impl.ErrRange, "up 40 0 1 0 10", "up 40 0 1 7 10", "up 40 0 1 1 0", "up 40 0 1 9999999999 10")
	holdRefused(t, b, impl.ErrNone, "up 40 0 1 1 9", "up 40 0 2 6 29", "up 40 1 3 6 4")
	holdRefused(t, b, impl.ErrTaken, "up 40 0 1 6 10", "up 40 0 1 4 10", "up 40 0 2 6 9999999999", "up 6 1 0 4 60")
	full := benchOf(lineNet(64), thinLits(40), nil)
	holdRefused(t, full, impl.ErrMany, "up 1 0 1 1 10", "up 0 0 1 1 10", "up 1 0 0 0 0")
	full.Lits = full.Lits[:39]
	holdSaid(t, full, "up 1 1 0 25 10", "up 1 39 0", func(b *impl.Bench) { b.Lits = byId(b.Lits, litOf(1, 1, 0, 39, 25, 0)) })
}

func TestStepOfSignal(t *testing.T) {
	b := squareBench()
	holdSaid(t, b, "signal 40 0 1 1 10 1", "signal 40 3 1", func(b *impl.Bench) { b.Lits = append(b.Lits, litOf(40, 0, 1, 3, 1, 0)) })
	holdSaid(t, b, "signal 7 0 2 2 30 20000", "signal 7 3 3", func(b *impl.Bench) { b.Lits = byId(b.Lits, litOf(7, 0, 2, 3, 2, 0, 1)) })
	holdSaid(t, b, "signal 007 0 2 2 30 0000000003", "signal 7 3 3", func(b *impl.Bench) { b.Lits = byId(b.Lits, litOf(7, 0, 2, 3, 2, 0, 1)) })
	holdRefused(t, b, impl.ErrMany, "signal 7 0 2 2 30 2", "signal 7 0 2 2 30 1")
	holdRefused(t, b, impl.ErrRange, "signal 7 0 2 2 30 0", "signal 7 0 2 2 30 20001", "signal 7 0 2 2 30 9999999999", "signal 7 0 2 0 30 5", "signal 7 0 2 7 30 5", "signal 7 0 2 2 0 5", "signal 7 0 2 0 30 0")
	holdRefused(t, b, impl.ErrForm, "signal 0 0 2 2 30 5", "signal 10 0 2 2 30 5", "signal 10 0 2 2 30 0", "signal 1000000001 0 2 2 30 5", "signal 7 2 2 2 30 5", "signal 7 0 4 2 30 0", "signal 7 4 0 0 0 0")
	holdRefused(t, b, impl.ErrNone, "signal 7 0 1 4 10 20000", "signal 7 0 2 2 29 20000", "signal 7 0 2 6 9999999999 20000")
	full := benchOf(lineNet(64), thinLits(40), nil)
	holdRefused(t, full, impl.ErrMany, "signal 1 0 1 1 10 5", "signal 0 0 1 1 10 0")
}

func TestStepOfPut(t *testing.T) {
	b := squareBench()
	put := func(line string, say string, lit impl.Lit) {
		t.Helper()
		holdSaid(t, b, line, say, func(b *impl.Bench) { b.Lits = byId(b.Lits, lit) })
	}
	put("put 1 2 3 5 1 2", "put 1", litOf(1, 2, 3, 5, 1, 2))
	put("put 007 0 3 05 01 0 1 2", "put 7", litOf(7, 0, 3, 5, 1, 0, 1, 2))
	put("put 9999999999 1 3 3 3 4", "put 9999999999", litOf(9999999999, 1, 3, 3, 3, 4))
	put("put 31 3 0 5 1 4 0", "put 31", litOf(31, 3, 0, 5, 1, 4, 0))
	put("put 12 1 2 2 4 1", "put 12", litOf(12, 1, 2, 2, 4, 1))
	bare := benchOf(netOf(2, 1, fibreOf(0, 1, 9)), nil, nil)
	holdSaid(t, bare, "put 5 0 1 0 1 0", "put 5", func(b *impl.Bench) { b.Lits = []impl.Lit{litOf(5, 0, 1, 0, 1, 0)} })
}

// TestStepOfPutRefused: its own ErrForm, then each code of LitsFault.
func TestStepOfPutRefused(t *testing.T) {
	b := squareBench()
	for _, lit := range guardedLits() {
		holdRefused(t, b, impl.ErrForm, fmt.Sprintf("put %d 2 3 5 1 2", lit.Id), fmt.Sprintf("put %010d 2 3 9 9 9", lit.Id))
	}
	holdRefused(t, b, impl.ErrForm, "put 0 2 3 5 1 2", "put 0000000000 2 3 5 1 2", "put 0 9 9 9 9 9", "put 5 0 1 9 9 0")
	holdRefused(t, b, impl.ErrForm, "put 7 0 1 5 1 2", "put 7 0 1 5 1 0 1", "put 7 0 1 5 1 0 0 0", "put 7 1 1 5 1 0", "put 7 4 1 5 1 0", "put 7 0 4 5 1 0", "put 7 0 1 9 9 2")
	holdRefused(t, b, impl.ErrRange, "put 7 0 1 5 1 5", "put 7 0 1 5 1 0 5", "put 7 0 1 5 1 9999999999", "put 7 0 1 9 9 9")
	holdRefused(t, b, impl.ErrRange, "put 7 0 1 5 2 0", "put 7 0 1 6 1 0", "put 7 0 1 5 0 0", "put 7 0 1 0 7 0", "put 7 0 1 9999999999 1 0", "put 7 0 1 1 9999999999 0")
	holdRefused(t, b, impl.ErrTaken, "put 7 0 1 0 1 0", "put 7 0 1 2 1 0", "put 99 0 1 2 4 0", "put 1 0 1 1 3 0", "put 12 2 3 3 2 2", "put 1 2 3 3 3 2")
	full := benchOf(lineNet(64), thinLits(40), nil)
	holdRefused(t, full, impl.ErrMany, "put 1 0 1 50 1 0", "put 1 9 9 99 99 9", "put 9999999999 0 1 50 1 0", "put 1 0 1 0 1 0")
	holdRefused(t, full, impl.ErrForm, "put 0 0 1 50 1 0", "put 2 0 1 50 1 0", "put 119 9 9 9 9 9")
	full.Lits = full.Lits[:39]
	holdSaid(t, full, "put 3 0 1 50 1 0", "put 3", func(b *impl.Bench) { b.Lits = byId(b.Lits, litOf(3, 0, 1, 50, 1, 0)) })
}

func TestStepOfDown(t *testing.T) {
	b := squareBench()
	without := func(id int64) func(*impl.Bench) {
		return func(b *impl.Bench) {
			b.Lits = slices.DeleteFunc(b.Lits, func(lit impl.Lit) bool { return lit.Id == id })
		}
	}
	holdSaid(t, b, "down 5", "down 5", without(5))
	holdSaid(t, b, "down 0000000030", "down 30", without(30))
	holdRefused(t, b, impl.ErrForm, "down 10", "down 11", "down 20", "down 21", "down 0021")
	holdRefused(t, b, impl.ErrNone, "down 0", "down 1", "down 6", "down 31", "down 9999999999", "down 4294967301")
	b.Guards = b.Guards[1:]
	holdSaid(t, b, "down 20", "down 20", without(20))
	holdSaid(t, b, "down 21", "down 21", without(21))
	holdRefused(t, b, impl.ErrForm, "down 10", "down 11")
	great := changedBench(b, func(b *impl.Bench) { b.Lits[5].Id = 9999999999 })
	holdSaid(t, great, "down 9999999999", "down 9999999999", without(9999999999))
	last := benchOf(lineNet(1), thinLits(1), nil)
	holdSaid(t, last, "down 2", "down 2", without(2))
}

func TestStepOfGuard(t *testing.T) {
	b := squareBench()
	holdSaid(t, b, "guard 40 1 3 1 60", "guard 40 3 5", func(b *impl.Bench) {
		b.Lits = append(b.Lits, litOf(40, 1, 3, 3, 1, 4), litOf(41, 1, 3, 5, 1, 0, 3))
		b.Guards = append(b.Guards, guardOf(40, 41))
	})
	holdSaid(t, b, "guard 6 3 1 1 50", "guard 6 3 2", func(b *impl.Bench) {
		b.Lits = byId(b.Lits, litOf(6, 3, 1, 3, 1, 4), litOf(7, 3, 1, 2, 1, 2, 1))
		b.Guards = append(b.Guards, guardOf(6, 7))
	})
	holdRefused(t, b, impl.ErrForm, "guard 0 1 3 1 60", "guard 10 1 3 1 60", "guard 4 1 3 1 60", "guard 9 1 3 1 60", "guard 1000000000 1 3 1 60", "guard 1000000001 1 3 1 60", "guard 40 1 1 1 60", "guard 40 4 3 1 60")
	holdRefused(t, b, impl.ErrRange, "guard 40 1 3 0 60", "guard 9 1 3 0 0", "guard 40 1 3 7 60", "guard 40 1 3 1 0", "guard 40 1 3 1 49", "guard 40 1 3 1 5")
	holdRefused(t, b, impl.ErrTaken, "guard 40 1 3 2 60", "guard 40 1 3 4 60", "guard 40 0 2 2 100")
	holdRefused(t, benchOf(lineNet(3), nil, nil), impl.ErrNone, "guard 40 0 1 1 60", "guard 1 1 0 3 60")
	lits, guards := thinGuarded(20)
	holdRefused(t, benchOf(triangleNet(64), lits, guards), impl.ErrMany, "guard 99 0 1 1 60", "guard 0 0 0 0 0")
	holdRefused(t, benchOf(triangleNet(64), lits[:38], guards[:19]), impl.ErrTaken, "guard 99 0 1 46 60")
	holdSaid(t, benchOf(triangleNet(64), lits[:38], guards[:19]), "guard 99 0 1 45 60", "guard 99 19 19", func(b *impl.Bench) {
		b.Lits = append(b.Lits, litOf(99, 0, 1, 19, 45, 0), litOf(100, 0, 1, 19, 45, 2, 1))
		b.Guards = append(b.Guards, guardOf(99, 100))
	})
	holdRefused(t, benchOf(triangleNet(64), lits[:39], guards[:19]), impl.ErrMany, "guard 99 0 1 1 60")
}

// TestStepOfGuardWithUnlikeRooms: the two lights' Firsts are told, the Work's first.
func TestStepOfGuardWithUnlikeRooms(t *testing.T) {
	for first := range int64(4) {
		for second := range int64(4) {
			lits := []impl.Lit{}
			if first > 0 {
				lits = append(lits, litOf(3, 1, 0, 0, first, 0))
			}
			if second > 0 {
				lits = append(lits, litOf(9, 0, 2, 0, second, 2))
			}
			b := benchOf(triangleNet(5), lits, nil)
			holdSaid(t, b, "guard 5 0 1 2 60", fmt.Sprint("guard 5 ", first, " ", second), func(b *impl.Bench) {
				b.Lits = byId(b.Lits, litOf(5, 0, 1, first, 2, 0), litOf(6, 0, 1, second, 2, 2, 1))
				b.Guards = []impl.Guard{guardOf(5, 6)}
			})
		}
	}
}

func TestStepOfPair(t *testing.T) {
	b := changedBench(squareBench(), func(b *impl.Bench) { b.Guards = b.Guards[:1] })
	holdSaid(t, b, "pair 10 11", "pair 10 11", func(b *impl.Bench) { b.Guards = append(b.Guards, guardOf(10, 11)) })
	holdSaid(t, b, "pair 0011 0000000010", "pair 11 10", func(b *impl.Bench) { b.Guards = append(b.Guards, guardOf(11, 10)) })
	holdRefused(t, b, impl.ErrNone, "pair 0 0", "pair 10 12", "pair 12 10", "pair 10 0", "pair 9999999999 10", "pair 1 1", "pair 21 12")
	holdRefused(t, b, impl.ErrForm, "pair 10 10", "pair 5 5", "pair 21 20", "pair 20 21", "pair 21 10", "pair 10 20", "pair 5 30", "pair 10 5", "pair 11 30")
	common := changedBench(b, func(b *impl.Bench) {
		b.Lits = []impl.Lit{litOf(1, 0, 2, 0, 1, 0, 1), litOf(2, 0, 2, 1, 1, 0, 1), litOf(3, 0, 2, 2, 1, 3, 4, 1)}
		b.Guards = nil
	})
	holdRefused(t, common, impl.ErrForm, "pair 1 2", "pair 2 3", "pair 1 3")
	lits, guards := thinGuarded(20)
	holdRefused(t, benchOf(triangleNet(64), lits, guards), impl.ErrMany, "pair 1 2", "pair 0 0", "pair 99 99")
	holdSaid(t, benchOf(triangleNet(64), lits, guards[:19]), "pair 39 40", "pair 39 40", func(b *impl.Bench) { b.Guards = append(b.Guards, guardOf(39, 40)) })
}

func TestStepOfUndo(t *testing.T) {
	b := squareBench()
	holdSaid(t, b, "undo 21", "undo 21", func(b *impl.Bench) { b.Lits, b.Guards = append(b.Lits[:3:3], b.Lits[5]), b.Guards[1:] })
	holdSaid(t, b, "undo 0000000010", "undo 10", func(b *impl.Bench) { b.Lits, b.Guards = append(b.Lits[:1:1], b.Lits[3:]...), b.Guards[:1] })
	holdRefused(t, b, impl.ErrNone, "undo 0", "undo 5", "undo 11", "undo 20", "undo 30", "undo 22", "undo 9999999999")
	b.Guards = nil
	holdRefused(t, b, impl.ErrNone, "undo 10", "undo 21")
}

func TestStepOfSlide(t *testing.T) {
	b := squareBench()
	slid := func(id int64, to int64) func(*impl.Bench) {
		return func(b *impl.Bench) { b.Lits = slidLits(b.Lits, slideOf(id, to)) }
	}
	holdSaid(t, b, "slide 5 2", "slide 5 2", slid(5, 2))
	holdSaid(t, b, "slide 0005 0000000004", "slide 5 4", slid(5, 4))
	holdSaid(t, b, "slide 5 1", "slide 5 1", slid(5, 1))
	holdSaid(t, b, "slide 30 4", "slide 30 4", slid(30, 4))
	holdRefused(t, b, impl.ErrNone, "slide 0 0", "slide 6 0", "slide 6 9999999999", "slide 9999999999 0")
	holdRefused(t, b, impl.ErrRange, "slide 5 5", "slide 5 9999999999", "slide 30 5", "slide 21 6", "slide 21 4294967296")
	holdRefused(t, b, impl.ErrTaken, "slide 5 0", "slide 21 1", "slide 21 5", "slide 30 0", "slide 20 0", "slide 10 1")
}

func TestStepOfTidy(t *testing.T) {
	holdStep(t, squareBench(), "tidy", toldStep("tidy 0 5", squareBench()))
	b := changedBench(squareBench(), func(b *impl.Bench) {
		b.Lits[0].First, b.Lits[4].First, b.Lits[5].First = 4, 1, 4
	})
	holdStep(t, b, "tidy", toldStep("tidy 4 5", squareBench()))
	row := benchOf(lineNet(64), []impl.Lit{litOf(1, 0, 1, 60, 4, 0), litOf(2, 0, 1, 30, 3, 0), litOf(3, 1, 0, 9, 1, 0)}, nil, threeSettings()...)
	holdSaid(t, row, "tidy", "tidy 6 8", func(b *impl.Bench) { b.Lits[0].First, b.Lits[1].First, b.Lits[2].First = 4, 1, 0 })
	for _, b := range []impl.Bench{benchOf(netOf(1, 1), nil, nil), benchOf(squareNet(), nil, nil, threeSettings()...)} {
		holdStep(t, b, "tidy", toldStep("tidy 0 0", b))
		holdStep(t, b, "show", toldStep("show 0 0 0", b))
	}
}

func TestStepOfShow(t *testing.T) {
	holdStep(t, squareBench(), "show", toldStep("show 6 5 1", squareBench()))
	high := changedBench(squareBench(), func(b *impl.Bench) { b.Lits[0].First = 4 })
	holdStep(t, high, "  show   ", toldStep("show 6 6 4", high))
	lits, guards := thinGuarded(20)
	full := benchOf(triangleNet(64), lits, guards, manySettings(50)...)
	holdStep(t, full, "show", toldStep("show 40 20 0", full))
	top := benchOf(lineNet(64), []impl.Lit{litOf(9, 0, 1, 63, 1, 0)}, nil)
	holdStep(t, top, "show", toldStep("show 1 64 63", top))
}
