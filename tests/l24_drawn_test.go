package tests

import (
	"fmt"
	"math"
	"strings"
	"testing"

	"loop.example/g00049/impl"
)

// lineDraws draw lines that have some sense on a bench.
type lineDraws struct {
	*numbers
	bench impl.Bench
}

// id is of a light that there is, more often than not.
func (d lineDraws) id() int64 {
	if lits := d.bench.Lits; len(lits) > 0 && d.below(5) > 0 {
		return lits[d.below(int64(len(lits)))].Id
	}
	return d.below(30)
}

func (d lineDraws) node() int64 {
	return d.below(d.bench.Net.Nodes + 1 - d.below(9)/8)
}

// work is of a guard that there is, more often than not.
func (d lineDraws) work() int64 {
	if guards := d.bench.Guards; len(guards) > 0 && d.below(5) > 0 {
		return guards[d.below(int64(len(guards)))].Work
	}
	return d.id()
}

// pair is of two lights from one node to one other, if there are any.
func (d lineDraws) pair() string {
	for _, work := range shuffled(d.numbers, d.bench.Lits) {
		for _, spare := range shuffled(d.numbers, d.bench.Lits) {
			if work.Id != spare.Id && work.From == spare.From && work.To == spare.To && d.below(6) > 0 {
				return sayByWords("pair", work.Id, spare.Id)
			}
		}
	}
	return sayByWords("pair", d.id(), d.id())
}

func (d lineDraws) name() string {
	return []string{"a", "b", "w", "nil", "Far-2"}[d.below(5)]
}

// need has an Id that is new, more often than not, and a reach that is enough.
func (d lineDraws) need() string {
	id := 1 + d.below(60)
	return sayByWords(id, d.below(d.bench.Net.Nodes+1), d.below(d.bench.Net.Nodes+1), d.below(4), 10+d.below(100))
}

// put is a light by a route that there is, if there is one, in slots that may be taken.
func (d lineDraws) put() string {
	n := d.bench.Net
	from, to := d.below(max(n.Nodes, 1)), d.below(max(n.Nodes, 1))
	path := []int64{d.below(9)}
	if routes := impl.RoutesOf(n, from, to, 9).Routes; len(routes) > 0 {
		path = routes[d.below(int64(len(routes)))]
	}
	return sayByWords("put", 1+d.below(60), from, to, d.below(n.Slots+1), 1+d.below(2), path)
}

func (d lineDraws) set() string {
	unit := []string{"m", "mm", "km", "s", "us", "W", "uW", "Hz", "kHz", "1", "1"}[d.below(11)]
	return fmt.Sprintf("set %s %d/%d %s", d.name(), d.below(50)-9, d.below(9), unit)
}

// line is now and then a remark or an empty one, and seldom one that is none.
func (d lineDraws) line() string {
	switch d.below(24) {
	case 0:
		return sayByWords("net", d.below(9), d.below(30))
	case 1:
		return sayByWords("fibre", d.below(5), d.below(5), d.below(50))
	case 2, 3, 4:
		return "up " + d.need()
	case 5, 6:
		return sayByWords("signal", d.need(), d.below(60))
	case 7, 8:
		return d.put()
	case 9:
		return sayByWords("down", d.id())
	case 10, 11, 12:
		return "guard " + d.need()
	case 13:
		return d.pair()
	case 14:
		return sayByWords("undo", d.work())
	case 15:
		return sayByWords("fail", d.below(int64(len(d.bench.Net.Fibres)+1)))
	case 16:
		return sayByWords("slide", d.id(), d.below(d.bench.Net.Slots+1))
	case 17:
		return "tidy"
	case 18:
		return "show"
	case 19, 20:
		return d.set()
	case 21, 22:
		return sayByWords([]string{"sum", "product", "quotient"}[d.below(3)], d.name(), d.name(), d.name())
	}
	return []string{"", "  ", "# a remark", "#show", "", " # tidy"}[d.below(6)]
}

// drawnScript is drawn line by line, each for the bench that there is then; the words tell what it answers.
func drawnScript(t *testing.T, draw *numbers, b impl.Bench, lines int, told map[string]int) string {
	t.Helper()
	script := []string{}
	for range lines {
		line := lineDraws{draw, b}.line()
		step := holdStepByWords(t, b, line)
		if step.Code == impl.OK {
			b = step.Bench
		}
		told[strings.SplitN(line+" ", " ", 2)[0]+fmt.Sprint(min(step.Code, 1))]++
		script = append(script, line)
	}
	return strings.Join(script, "\n")
}

// startOf draws a net without lights, or no net.
func startOf(draw *numbers) impl.Bench {
	if draw.below(8) == 0 {
		return benchOf(impl.Net{}, nil, nil, threeSettings()...)
	}
	return benchOf(drawnNet(draw, 3+draw.below(4), 4+draw.below(9), 3+int(draw.below(8)), 30), nil, nil, threeSettings()[:2]...)
}

// TestDrawnScripts: line by line, at once, in parts, and once more.
func TestDrawnScripts(t *testing.T) {
	draw := numbers{state: 2430}
	told := map[string]int{}
	for i := range 100 {
		b := startOf(&draw)
		script := drawnScript(t, &draw, b, 60, told)
		holdRunByWords(t, b, script)
		if i%10 == 0 {
			holdInTwo(t, b, script)
		}
	}
	for word := range callsByWords {
		if told[word+"0"] < 5 || told[word+"1"] < 10 && word != "show" && word != "tidy" {
			t.Errorf("lines told: %v", told)
		}
	}
}

// linesOnABench are of each word, some for lights and guards that there are, and each single cut fibre.
func linesOnABench(draw *numbers, b impl.Bench) []string {
	lines := []string{"show", "tidy", "go", "", "net 2 2", "fibre 0 1 10", "fibre 0 2 1"}
	for fibre := range len(b.Net.Fibres) + 1 {
		lines = append(lines, fmt.Sprint("fail ", fibre))
	}
	for range 40 {
		lines = append(lines, lineDraws{draw, b}.line())
	}
	return lines
}

// TestRemadeBenches: what is dumped and made anew is the same bench, and answers each line as the first one does.
func TestRemadeBenches(t *testing.T) {
	draw := numbers{state: 2440}
	remade := 0
	for range 60 {
		b := startOf(&draw)
		b = impl.RunBench(b, drawnScript(t, &draw, b, 25, map[string]int{})).Bench
		dump := holdDumpByWords(t, "drawn", b)
		if dump.Code != impl.OK {
			b.Settings = fiveSettings()
			dump = holdDumpByWords(t, "drawn, with other settings", b)
		}
		twin := impl.RunBench(impl.Bench{}, dump.Text).Bench
		for _, line := range linesOnABench(&draw, b) {
			first, second := impl.StepBench(b, line), impl.StepBench(twin, line)
			if fmt.Sprint(first) != fmt.Sprint(second) {
				t.Errorf("%q on %s: %s, made anew %s", line, brief(b), brief(first), brief(second))
			}
		}
		for fibre := range b.Net.Fibres {
			holdBenchPromise(t, twin, fibre)
		}
		remade += len(b.Lits)
	}
	if remade < 100 {
		t.Errorf("%d lights were made anew", remade)
	}
}

// TestBenchCallsAtAnyArgument: bytes of all kinds, numbers of any size, lists that share memory; nothing panics, and nothing is kept.
func TestBenchCallsAtAnyArgument(t *testing.T) {
	draw := numbers{state: 2450}
	pieces := []string{"net ", "set ", "w ", "1 ", "m", "\n", "#", " ", "0", "-", "9999999999 ", "\xff", "\x00", "sum ", "show", "put ", "/", "."}
	shows := impl.RunBench(squareBench(), longScript)
	for range 3000 {
		text := ""
		for range draw.below(14) {
			text += pieces[draw.below(int64(len(pieces)))]
		}
		if got, want := impl.StepBench(squareBench(), text), benchStepByWords(squareBench(), text); fmt.Sprint(got) != fmt.Sprint(want) {
			t.Errorf("%q: %s, want %s", text, brief(got), brief(want))
		}
		if got, want := impl.RunBench(impl.Bench{}, text), benchRunByWords(impl.Bench{}, text); fmt.Sprint(got) != fmt.Sprint(want) {
			t.Errorf("%q: %s, want %s", text, brief(got), brief(want))
		}
	}
	most := benchOf(netOf(math.MaxInt64, math.MinInt64, fibreOf(math.MinInt64, math.MaxInt64, math.MinInt64)), []impl.Lit{litOf(math.MinInt64, math.MaxInt64, 0, math.MaxInt64, math.MaxInt64, math.MinInt64)}, []impl.Guard{guardOf(math.MinInt64, math.MaxInt64)}, settingOf("\xff", frac(math.MinInt64, math.MinInt64), math.MinInt64, math.MaxInt64, 0))
	holdStep(t, most, "show", noStep(impl.ErrMany))
	most.Net.Nodes = math.MinInt64
	holdStep(t, most, "tidy", noStep(impl.ErrForm))
	holdRun(t, most, longScript, noRun(impl.ErrForm))
	holdDump(t, "the least and the greatest", most, noText(impl.ErrForm))
	if again := impl.RunBench(squareBench(), longScript); fmt.Sprint(again) != fmt.Sprint(shows) {
		t.Errorf("%s, and later %s", brief(shows), brief(again))
	}
}

// TestStepsOfSharedPaths: lights that were handed in with one path for two of them are told with a path each.
func TestStepsOfSharedPaths(t *testing.T) {
	path := []int64{0, 1}
	lits := []impl.Lit{litOf(10, 0, 2, 0, 1, path...), litOf(11, 0, 2, 0, 1, 3, 2), litOf(12, 0, 2, 1, 1, path...), litOf(13, 0, 2, 2, 1, path...)}
	b := benchOf(squareNet(), lits, []impl.Guard{guardOf(12, 11)}, fiveSettings()...)
	for _, line := range []string{"", "#", "show", "tidy", "set w 1 m", "sum w w w", "up 1 1 3 1 9", "down 10", "down 13", "fail 0", "fail 2", "slide 13 5", "pair 10 12", "undo 12", "put 7 0 1 5 1 0", "guard 1 0 2 1 100", "signal 1 0 2 1 100 50"} {
		holdStepByWords(t, b, line)
		holdRunByWords(t, b, line+"\n\n"+line+"\nshow")
	}
	holdDumpByWords(t, "shared paths", b)
}
