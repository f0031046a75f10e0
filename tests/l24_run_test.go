package tests

import (
	"fmt"
	"strings"
	"sync"
	"testing"

	"loop.example/g00049/impl"
)

// longScript has each word of the table, lines that are refused, remarks and empty lines; longLog is what it says.
const longScript = `# a ring of four, and a way across
show
fibre 0 1 10
net 4 6
net 4 6

fibre 0 1 10
fibre 1 2 20
fibre 2 3 30
  fibre   0 3   40
fibre 3 1 5
fibre 1 3 5
guard 10 0 2 2 100
# behind it a light of its own
up 5 3 1 2 100
up 5 3 1 2 100
fibre 0 2 10
signal 30 2 0 2 100 1
signal 30 2 0 2 100 20000
put 20 1 3 5 1 0 3
put 21 1 3 3 1 4
pair 21 20
down 10
down 5
slide 21 0
slide 21 1
show
tidy
show
fail 2
pair 10 11
fail 0
undo 21
show
guard 40 0 2 1 100
undo 40
set w 3 mm
set t 1/0 s
set t 2.50 us
product area w w
quotient speed w t
sum w w t
sum w w w
quotient w w nobody
    # the end
show
`

const longLog = `show 0 0 0
no 1
net
no 1
fibre 0
fibre 1
fibre 2
fibre 3
no 1
fibre 4
guard 10 0 0
up 5 0 4
no 1
no 1
no 2
signal 30 2 2
put 20
put 21
pair 21 20
no 1
down 5
slide 21 0
slide 21 1
show 5 6 5
tidy 2 5
show 5 5 2
fail 2 switched bare 10 rerouted lost
no 4
fail 0 switched bare 21 rerouted 10 30 lost
no 4
show 3 5 2
guard 40 0 0
undo 40
w = 3/1000 m
no 6
t = 1/400000 s
area = 9/1000000 m^2
speed = 1200 m s^-1
no 1
w = 3/500 m
no 4
show 3 5 2
`

func TestRunTold(t *testing.T) {
	text := "net 3 4\nfibre 0 1 10\nfibre 1 2 10\nfibre 0 2 30\nguard 1 0 2 1 100\nfail 0\nset w 3 mm\nproduct area w w\nshow\ndown 9\n"
	log := "net\nfibre 0\nfibre 1\nfibre 2\nguard 1 0 0\nfail 0 switched 1 bare rerouted lost\nw = 3/1000 m\narea = 9/1000000 m^2\nshow 1 1 0\nno 4\n"
	b := benchOf(netOf(3, 4, fibreOf(0, 1, 10), fibreOf(1, 2, 10), fibreOf(0, 2, 30)), []impl.Lit{litOf(2, 0, 2, 0, 1, 2)}, nil, settingOf("w", frac(3, 1000), 1, 0, 0), settingOf("area", frac(9, 1000000), 2, 0, 0))
	holdRun(t, impl.Bench{}, text, toldRun(log, b))
	holdRun(t, impl.Bench{}, strings.TrimSuffix(text, "\n"), toldRun(log, b))
	holdRun(t, b, "show", toldRun("show 1 1 0\n", b))
	want := impl.RunResult{Code: impl.ErrText, At: 1, Log: "net\n", Bench: benchOf(netOf(2, 2), nil, nil)}
	holdRun(t, impl.Bench{}, "net 2 2\ngo", want)
	holdRun(t, impl.Bench{}, "net 2 2\ngo\n", want)
	holdRun(t, impl.Bench{}, "net 2 2\ngo\nnet 2 2\ngo", want)
}

func TestRunOfALongScript(t *testing.T) {
	got := holdRunByWords(t, impl.Bench{}, longScript)
	if got.Code != impl.OK || got.Log != longLog {
		t.Errorf("the words tell %d and %q", got.Code, got.Log)
	}
	for _, b := range []impl.Bench{squareBench(), benchOf(impl.Net{}, nil, nil, manySettings(50)...), benchOf(impl.Net{}, nil, nil, manySettings(48)...)} {
		if got := holdRunByWords(t, b, longScript); got.Code != impl.OK || got.Log == longLog {
			t.Errorf("the words tell %d and %q", got.Code, got.Log)
		}
	}
}

// TestRunThatSaysNothing: empty lines and remarks have no line in the log.
func TestRunThatSaysNothing(t *testing.T) {
	for _, b := range []impl.Bench{{}, squareBench(), benchOf(impl.Net{}, nil, nil, threeSettings()...)} {
		for _, text := range []string{"", "\n", "\n\n\n", " ", "  \n ", "#", "# show\n", "\n# a\n\n  # b", strings.Repeat("\n", 399), strings.Repeat("#\n", 399)} {
			holdRun(t, b, text, toldRun("", b))
		}
		holdRun(t, b, "\n\n#\nset q 1 1\n\n", holdRunByWords(t, b, "set q 1 1"))
	}
}

// TestRunOfManyLines: 400 are run, of 401 none is; behind a last byte 10 stands a line, too.
func TestRunOfManyLines(t *testing.T) {
	shows := func(count int) string { return strings.Repeat("show\n", count) }
	b := squareBench()
	holdRun(t, b, shows(399), toldRun(strings.Repeat("show 6 5 1\n", 399), b))
	holdRun(t, b, shows(399)+"show", toldRun(strings.Repeat("show 6 5 1\n", 400), b))
	holdRun(t, b, shows(398)+"show", toldRun(strings.Repeat("show 6 5 1\n", 399), b))
	holdRun(t, b, strings.Repeat("\n", 399)+"set q 2 1", toldRun("q = 2\n", changedBench(b, func(b *impl.Bench) { b.Settings = append(b.Settings, settingOf("q", frac(2, 1), 0, 0, 0)) })))
	for _, text := range []string{shows(400), shows(400) + "show", shows(401), strings.Repeat("\n", 400), strings.Repeat("\n", 401), strings.Repeat("\n", 4000), "go" + strings.Repeat("\n", 400), strings.Repeat("#\n", 400)} {
		holdRun(t, b, text, noRun(impl.ErrMany))
		holdRun(t, impl.Bench{}, text, noRun(impl.ErrMany))
	}
	holdRun(t, impl.Bench{}, strings.Repeat("\n", 399)+"go", impl.RunResult{Code: impl.ErrText, At: 399})
}

func TestRunOfManyBytes(t *testing.T) {
	b := squareBench()
	for _, text := range []string{"#" + strings.Repeat("x", 3999), strings.Repeat(" ", 4000), strings.Repeat(" ", 3999) + "\n", strings.Repeat(strings.Repeat("#", 99)+"\n", 40)} {
		holdRun(t, b, text, toldRun("", b))
		holdRun(t, b, text+" ", noRun(impl.ErrMany))
		holdRun(t, b, text+"\n", noRun(impl.ErrMany))
		holdRun(t, b, text+"go", noRun(impl.ErrMany))
	}
	holdRun(t, b, strings.Repeat(" ", 3996)+"show", toldRun("show 6 5 1\n", b))
	holdRun(t, b, strings.Repeat(" ", 3997)+"show", noRun(impl.ErrMany))
	holdRun(t, b, "show"+strings.Repeat(" ", 3996), toldRun("show 6 5 1\n", b))
	holdRun(t, b, "show"+strings.Repeat(" ", 100000), noRun(impl.ErrMany))
	holdRun(t, impl.Bench{}, strings.Repeat("x", 4000), noRun(impl.ErrText))
	holdRun(t, impl.Bench{}, strings.Repeat("x", 4001), noRun(impl.ErrMany))
}

// TestRunOfAFaultyBench: its fault is told At 0, behind a text that is too long or has too many lines.
func TestRunOfAFaultyBench(t *testing.T) {
	for _, b := range wrongBenches() {
		want := noRun(benchCodeByWords(b))
		for _, text := range []string{"", "show", "go", "#", "\n\ngo", "net 0 0", longScript, strings.Repeat("\n", 399), strings.Repeat("x", 4000)} {
			holdRun(t, b, text, want)
		}
		holdRun(t, b, strings.Repeat("\n", 400), noRun(impl.ErrMany))
		holdRun(t, b, strings.Repeat("x", 4001), noRun(impl.ErrMany))
	}
}

// TestRunOfRefusedCalls: each code is told, the bench stays as it was, and the lines behind it are run.
func TestRunOfRefusedCalls(t *testing.T) {
	refused := map[string]int64{
		"net 1 1": impl.ErrForm, "fibre 0 2 1": impl.ErrForm, "up 10 0 1 1 10": impl.ErrForm, "up 40 0 1 0 10": impl.ErrRange, "up 40 0 1 1 9": impl.ErrNone, "up 40 0 1 6 10": impl.ErrTaken,
		"signal 7 0 2 2 30 2": impl.ErrMany, "put 0 0 0 0 0 0": impl.ErrForm, "put 7 0 1 0 1 0": impl.ErrTaken, "put 7 0 1 5 1 9": impl.ErrRange, "down 10": impl.ErrForm, "down 6": impl.ErrNone,
		"guard 9 1 3 1 60": impl.ErrForm, "guard 40 1 3 2 60": impl.ErrTaken, "pair 5 30": impl.ErrForm, "pair 1 2": impl.ErrNone, "undo 5": impl.ErrNone, "fail 5": impl.ErrRange,
		"slide 6 0": impl.ErrNone, "slide 5 5": impl.ErrRange, "slide 5 0": impl.ErrTaken, "set w 1/0 m": impl.ErrZero, "set w 1000001 km": impl.ErrRange, "sum w w nil": impl.ErrForm,
		"quotient w w nil": impl.ErrZero, "product q w p": impl.ErrNone, "product w Far-2 Far-2": impl.ErrRange,
	}
	for line, code := range refused {
		b := squareBench()
		no := fmt.Sprintf("no %d\n", code)
		holdRun(t, b, line, toldRun(no, b))
		holdRun(t, b, line+"\n"+line+"\nshow", toldRun(no+no+"show 6 5 1\n", b))
		behind := changedBench(b, func(b *impl.Bench) { b.Lits = slidLits(b.Lits, slideOf(5, 2)) })
		holdRun(t, b, "slide 5 2\n"+line+"\n\nshow\n"+line, toldRun("slide 5 2\n"+no+"show 6 5 2\n"+no, behind))
	}
}

// TestRunOfLinesThatAreNone: such a line ends the script, wherever it stands.
func TestRunOfLinesThatAreNone(t *testing.T) {
	lines := strings.Split(longScript, "\n")
	for at := range len(lines) + 1 {
		ahead := benchRunByWords(impl.Bench{}, strings.Join(lines[:at], "\n"))
		ahead.Code, ahead.At = impl.ErrText, int64(at)
		for _, none := range []string{"go", "set w 1 Mm", "show 1", "net 2", "\t"} {
			text := strings.Join(append(append(lines[:at:at], none), lines[at:]...), "\n")
			holdRun(t, impl.Bench{}, text, ahead)
		}
	}
	for _, none := range noLines() {
		holdRun(t, squareBench(), none, impl.RunResult{Code: impl.ErrText, Bench: squareBench()})
		want := impl.RunResult{Code: impl.ErrText, At: 3, Log: "show 6 5 1\nno 4\n", Bench: squareBench()}
		holdRun(t, squareBench(), "show\n# one\ndown 6\n"+none+"\nshow\n"+none, want)
	}
}

// holdInTwo runs a script at once and in two parts, parted at each line and at each one again with the byte 10 that ends it.
func holdInTwo(t *testing.T, b impl.Bench, text string) {
	t.Helper()
	whole := impl.RunBench(b, text)
	lines := strings.Split(text, "\n")
	for at := range len(lines) + 1 {
		for _, end := range []string{"", "\n"} {
			first := impl.RunBench(b, strings.Join(lines[:at], "\n")+end)
			if first.Code != impl.OK {
				if fmt.Sprint(first) != fmt.Sprint(whole) {
					t.Errorf("the first %d lines of %q: %s, not %s", at, brief(text), brief(first), brief(whole))
				}
				continue
			}
			second := impl.RunBench(first.Bench, strings.Join(lines[at:], "\n"))
			second.Log = first.Log + second.Log
			if second.Code != impl.OK {
				second.At += int64(at)
			}
			if fmt.Sprint(second) != fmt.Sprint(whole) {
				t.Errorf("%q in two parts, at %d: %s, not %s", brief(text), at, brief(second), brief(whole))
			}
		}
	}
}

func TestRunInTwoParts(t *testing.T) {
	holdInTwo(t, impl.Bench{}, longScript)
	holdInTwo(t, squareBench(), longScript)
	holdInTwo(t, fourListsBench(), "show\nfail 0\nfail 1\ntidy\nshow\nup 40 1 3 1 9\n")
	holdInTwo(t, squareBench(), "show\ndown 5\ndown 5\n\ngo\nshow\ngo")
	holdInTwo(t, impl.Bench{}, strings.Replace(longScript, "tidy", "tidy 1", 1))
	holdInTwo(t, impl.Bench{}, "")
}

// TestRunAnyTime: many runs at one time tell what each tells alone.
func TestRunAnyTime(t *testing.T) {
	want := fmt.Sprint(benchRunByWords(impl.Bench{}, longScript))
	b := squareBench()
	other := fmt.Sprint(benchRunByWords(b, longScript))
	var all sync.WaitGroup
	told := make([][2]string, 16)
	for i := range told {
		all.Add(1)
		go func() {
			defer all.Done()
			told[i] = [2]string{fmt.Sprint(impl.RunBench(impl.Bench{}, longScript)), fmt.Sprint(impl.RunBench(b, longScript))}
		}()
	}
	all.Wait()
	for _, got := range told {
		if got != [2]string{want, other} {
			t.Errorf("told %s and %s", brief(got[0]), brief(got[1]))
		}
	}
}
