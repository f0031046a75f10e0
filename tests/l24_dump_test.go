package tests

import (
	"fmt"
	"math"
	"regexp"
	"strings"
	"testing"

	"loop.example/g00049/impl"
)

var refusedLine = regexp.MustCompile(`(?m)^no [0-9]`)

func toldText(text string) impl.TextResult {
	return impl.TextResult{Text: text}
}

func noText(code int64) impl.TextResult {
	return impl.TextResult{Code: code}
}

// unitByWords is the base unit of those exponents; empty, if there is none.
func unitByWords(q impl.Quantity) string {
	return map[[3]int64]string{{0, 0, 0}: "1", {1, 0, 0}: "m", {0, 1, 0}: "s", {0, 0, 1}: "W", {0, -1, 0}: "Hz"}[[3]int64{q.Metre, q.Second, q.Watt}]
}

func dumpByWords(b impl.Bench) impl.TextResult {
	if code := benchCodeByWords(b); code != impl.OK {
		return noText(code)
	}
	lines := []string{}
	if b.Net.Nodes != 0 {
		lines = append(lines, sayByWords("net", b.Net.Nodes, b.Net.Slots))
	}
	for _, f := range b.Net.Fibres {
		lines = append(lines, sayByWords("fibre", f.A, f.B, f.Km))
	}
	for _, l := range b.Lits {
		if len(fmt.Sprint(l.Id)) > 10 {
			return noText(impl.ErrRange)
		}
		lines = append(lines, sayByWords("put", l.Id, l.From, l.To, l.First, l.Width, l.Path))
	}
	for _, g := range b.Guards {
		lines = append(lines, sayByWords("pair", g.Work, g.Spare))
	}
	for _, s := range b.Settings {
		unit := unitByWords(s.Quantity)
		if unit == "" {
			return noText(impl.ErrRange)
		}
		bare := tellByWords(quantityOf(s.Quantity.Value, 0, 0, 0))
		lines = append(lines, sayByWords("set", s.Name, bare, unit))
	}
	text := strings.Join(append(lines, ""), "\n")
	if len(text) > 4000 {
		return noText(impl.ErrMany)
	}
	return toldText(text)
}

func holdDump(t *testing.T, what string, b impl.Bench, want impl.TextResult) {
	t.Helper()
	holdCall(t, what+", DumpBench", benchArgs{b}, func(a benchArgs) impl.TextResult { return impl.DumpBench(a.bench) }, want)
	if told := dumpByWords(b); told != want {
		t.Errorf("%s: the words tell %v of %s, not %v", what, told, brief(b), want)
	}
	if want.Code == impl.OK {
		holdRemade(t, b, want.Text)
	}
}

// holdRemade runs what was dumped: it makes the bench again, and nothing of it is refused.
func holdRemade(t *testing.T, b impl.Bench, text string) {
	t.Helper()
	run := impl.RunBench(impl.Bench{}, text)
	if run.Code != impl.OK || fmt.Sprint(run.Bench) != fmt.Sprint(b) || refusedLine.MatchString(run.Log) || impl.ReplayBench(text, run.Log) != -1 {
		t.Errorf("%q makes %s, not %s", brief(text), brief(run), brief(b))
	}
	if again := impl.DumpBench(run.Bench); again != toldText(text) {
		t.Errorf("%q is dumped again as %q", brief(text), brief(again))
	}
}

func holdDumpByWords(t *testing.T, what string, b impl.Bench) impl.TextResult {
	t.Helper()
	want := dumpByWords(b)
	holdDump(t, what, b, want)
	return want
}

// fiveSettings are of the five units that are dumped.
func fiveSettings() []impl.Setting {
	return []impl.Setting{
		settingOf("w", frac(3, 1000), 1, 0, 0), settingOf("t", frac(-5, 1), 0, 1, 0), settingOf("P", frac(1, 1000000000), 0, 0, 1), settingOf("rate-2", frac(-1000000000, 1), 0, -1, 0), settingOf("no", frac(0, 1), 0, 0, 0),
	}
}

func TestDumpTold(t *testing.T) {
	holdDump(t, "nothing", impl.Bench{}, toldText(""))
	holdDump(t, "empty lists", benchOf(netOf(0, 0), []impl.Lit{}, []impl.Guard{}), toldText(""))
	holdDump(t, "a net", benchOf(netOf(1, 64), nil, nil), toldText("net 1 64\n"))
	holdDump(t, "fibres", benchOf(squareNet(), nil, nil), toldText("net 4 6\nfibre 0 1 10\nfibre 1 2 20\nfibre 2 3 30\nfibre 0 3 40\nfibre 1 3 5\n"))
	holdDump(t, "a light", benchOf(lineNet(3), []impl.Lit{litOf(7, 1, 0, 1, 2, 0)}, nil), toldText("net 2 3\nfibre 0 1 10\nput 7 1 0 1 2 0\n"))
	holdDump(t, "settings", benchOf(impl.Net{}, nil, nil, fiveSettings()...), toldText("set w 3/1000 m\nset t -5 s\nset P 1/1000000000 W\nset rate-2 -1000000000 Hz\nset no 0 1\n"))
	all := benchOf(squareNet(), guardedLits(), twoGuards(), fiveSettings()...)
	holdDump(t, "all", all, toldText(`net 4 6
fibre 0 1 10
fibre 1 2 20
fibre 2 3 30
fibre 0 3 40
fibre 1 3 5
put 5 3 1 1 2 4
put 10 0 2 0 2 0 1
put 11 0 2 0 2 3 2
put 20 1 3 2 1 0 3
put 21 1 3 0 1 4
put 30 2 0 3 2 2 3
pair 21 20
pair 10 11
set w 3/1000 m
set t -5 s
set P 1/1000000000 W
set rate-2 -1000000000 Hz
set no 0 1
`))
	shared := impl.Bench{Net: netOf(3, 4, fibreOf(0, 1, 10), fibreOf(1, 2, 10), fibreOf(0, 2, 30)), Lits: []impl.Lit{litOf(2, 0, 2, 0, 1, 2)}}
	holdDump(t, "behind a cut", shared, toldText("net 3 4\nfibre 0 1 10\nfibre 1 2 10\nfibre 0 2 30\nput 2 0 2 0 1 2\n"))
}

func TestDumpOfFaults(t *testing.T) {
	for what, b := range wrongBenches() {
		holdDump(t, what, b, noText(benchCodeByWords(b)))
		b.Settings = append(fiveSettings(), settingOf("far", frac(1, 1), 2, 0, 0))
		if code := benchCodeByWords(b); code != impl.OK {
			holdDump(t, what+", a unit that is none", b, noText(code))
		}
	}
}

// TestDumpOfUnits: five have a base unit, all others have none.
func TestDumpOfUnits(t *testing.T) {
	told := 0
	for metre := int64(-2); metre <= 2; metre++ {
		for second := int64(-2); second <= 2; second++ {
			for watt := int64(-2); watt <= 2; watt++ {
				for _, f := range []impl.Frac{frac(1, 1), frac(0, 1), frac(-3, 1000)} {
					b := benchOf(impl.Net{}, nil, nil, settingOf("a", f, metre, second, watt))
					if holdDumpByWords(t, "a unit", b).Code == impl.OK {
						told++
					}
					b.Settings = append(fiveSettings(), b.Settings...)
					holdDumpByWords(t, "a unit behind others", b)
				}
			}
		}
	}
	if told != 15 {
		t.Errorf("%d of the settings were dumped", told)
	}
	for _, exponent := range []int64{-9, -3, 3, 9} {
		for _, s := range []impl.Setting{settingOf("a", frac(1, 1), exponent, 0, 0), settingOf("a", frac(1, 1), 0, exponent, 0), settingOf("a", frac(1, 1), 0, 0, exponent)} {
			holdDump(t, "a far unit", benchOf(squareNet(), nil, nil, s), noText(impl.ErrRange))
			holdDump(t, "a far unit ahead", benchOf(squareNet(), nil, nil, append([]impl.Setting{s}, fiveSettings()[1:]...)...), noText(impl.ErrRange))
		}
	}
	for _, f := range rightFracs() {
		holdDumpByWords(t, "a value", benchOf(impl.Net{}, nil, nil, settingOf("a", f, 0, 0, 0), settingOf("b", f, 0, -1, 0)))
	}
	for _, name := range rightNames() {
		holdDumpByWords(t, "a name", benchOf(impl.Net{}, nil, nil, settingOf(name, frac(1, 2), 0, 0, 1)))
	}
}

// TestDumpOfIds: ten digits are dumped, eleven are not, whichever light has them.
func TestDumpOfIds(t *testing.T) {
	for _, id := range []int64{1, 9, 10, 999999999, 1000000000, 1000000001, 4294967296, 9999999998, 9999999999} {
		holdDump(t, "an Id", benchOf(lineNet(3), []impl.Lit{litOf(id, 1, 0, 1, 2, 0)}, nil), toldText(fmt.Sprintf("net 2 3\nfibre 0 1 10\nput %d 1 0 1 2 0\n", id)))
	}
	for _, id := range []int64{10000000000, 10000000001, 99999999999, math.MaxInt64} {
		holdDump(t, "an Id", benchOf(lineNet(3), []impl.Lit{litOf(id, 1, 0, 1, 2, 0)}, nil), noText(impl.ErrRange))
		holdDump(t, "the last Id", changedBench(benchOf(squareNet(), guardedLits(), twoGuards()), func(b *impl.Bench) { b.Lits[5].Id = id }), noText(impl.ErrRange))
	}
	great := changedBench(benchOf(squareNet(), guardedLits(), twoGuards()), func(b *impl.Bench) {
		for i := range b.Lits {
			b.Lits[i].Id += 9999999969
		}
		b.Guards = []impl.Guard{guardOf(9999999990, 9999999989), guardOf(9999999979, 9999999980)}
	})
	holdDumpByWords(t, "great Ids", great)
	for i := range great.Lits {
		great.Lits[i].Id++
	}
	great.Guards = nil
	holdDump(t, "greater Ids", great, noText(impl.ErrRange))
}

// benchOfBytes is dumped as so many bytes: lights and guards of great Ids, and settings whose names are as long as need be.
func benchOfBytes(bytes int) impl.Bench {
	lits, guards := thinGuarded(20)
	for i := range lits {
		lits[i].Id += 9999999900
	}
	for i := range guards {
		guards[i] = guardOf(guards[i].Work+9999999900, guards[i].Spare+9999999900)
	}
	b := benchOf(triangleNet(64), lits, guards)
	length := len("net 3 64\nfibre 0 1 10\nfibre 1 2 20\nfibre 0 2 30\n") + len("pair 9999999901 9999999902\n")*20
	for _, lit := range lits {
		length += len(sayByWords("put", lit.Id, lit.From, lit.To, lit.First, lit.Width, lit.Path)) + 1
	}
	for i := range 50 {
		room := min(17, (bytes-length)/(50-i)-len("set n00 -999999999/1000000000 Hz\n"))
		if i == 49 {
			room = bytes - length - len("set n00 -999999999/1000000000 Hz\n")
		}
		name := fmt.Sprintf("n%02d", i) + strings.Repeat("x", room)
		b.Settings = append(b.Settings, settingOf(name, frac(-999999999, 1000000000), 0, -1, 0))
		length += len("set " + name + " -999999999/1000000000 Hz\n")
	}
	return b
}

// TestDumpOfManyBytes: a text of 4000 bytes is told, of one more it is not.
func TestDumpOfManyBytes(t *testing.T) {
	for _, bytes := range []int{3900, 3999, 4000} {
		if got := holdDumpByWords(t, "many bytes", benchOfBytes(bytes)); len(got.Text) != bytes {
			t.Errorf("%d bytes are told, not %d", len(got.Text), bytes)
		}
	}
	for _, bytes := range []int{4001, 4002, 4100} {
		holdDump(t, "too many bytes", benchOfBytes(bytes), noText(impl.ErrMany))
	}
	far := benchOfBytes(4001)
	far.Settings[49].Quantity.Second = -2
	holdDump(t, "too many bytes, and a unit that is none", far, noText(impl.ErrRange))
	great := benchOfBytes(4001)
	great.Guards = great.Guards[:19]
	great.Lits[39].Id = 10000000000
	holdDump(t, "many bytes, and a great Id", great, noText(impl.ErrRange))
	lits, guards := thinGuarded(20)
	holdDumpByWords(t, "all that may be", benchOf(triangleNet(64), lits, guards, manySettings(50)...))
}
