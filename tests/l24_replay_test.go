package tests

import (
	"fmt"
	"strings"
	"testing"

	"loop.example/g00049/impl"
)

func benchReplayByWords(text string, log string) int64 {
	run := benchRunByWords(impl.Bench{}, text)
	if run.Code != impl.OK {
		return -2
	}
	if run.Log == log {
		return -1
	}
	for at := range min(len(run.Log), len(log)) {
		if run.Log[at] != log[at] {
			return int64(at)
		}
	}
	return int64(min(len(run.Log), len(log)))
}

func holdBenchReplay(t *testing.T, text string, log string, want int64) {
	t.Helper()
	for range 2 {
		if got := impl.ReplayBench(text, log); got != want {
			t.Errorf("ReplayBench(%q, %q) = %d, want %d", brief(text), brief(log), got, want)
		}
	}
	if told := benchReplayByWords(text, log); told != want {
		t.Errorf("%q, %q: the words tell %d, not %d", brief(text), brief(log), told, want)
	}
}

func TestBenchReplayTold(t *testing.T) {
	holdBenchReplay(t, longScript, longLog, -1)
	holdBenchReplay(t, "", "", -1)
	holdBenchReplay(t, "\n# nothing\n", "", -1)
	holdBenchReplay(t, "net 2 2", "net\n", -1)
	holdBenchReplay(t, "net 2 2", "net", 3)
	holdBenchReplay(t, "net 2 2", "", 0)
	holdBenchReplay(t, "", "net\n", 0)
	holdBenchReplay(t, "net 2 2", "net\n\n", 4)
	holdBenchReplay(t, "net 2 2", "nett\n", 3)
	holdBenchReplay(t, "net 2 2", "Net\n", 0)
	holdBenchReplay(t, "net 2 2", "no 1\n", 1)
	holdBenchReplay(t, "net 2 2", "net\r\n", 3)
	holdBenchReplay(t, "net 0 2", "no 1\n", -1)
	holdBenchReplay(t, "net 0 2", "no 2\n", 3)
	holdBenchReplay(t, "net 3 4\nfibre 0 1 10\nfibre 1 2 10\nfibre 0 2 30\nput 2 0 2 0 1 2\n", "net\n", 4)
}

// TestBenchReplayOfCodes: of a text that is not run to its end the log does not matter.
func TestBenchReplayOfCodes(t *testing.T) {
	for _, text := range []string{"go", "net 2 2\ngo", longScript + "go", "\tshow", strings.Repeat("\n", 400), strings.Repeat(" ", 4001), strings.Repeat("x", 4001), "set w 1 Mm"} {
		for _, log := range []string{"", "net\n", longLog, "no 5\n", impl.RunBench(impl.Bench{}, text).Log} {
			holdBenchReplay(t, text, log, -2)
		}
	}
	holdBenchReplay(t, strings.Repeat("\n", 399), "", -1)
	holdBenchReplay(t, strings.Repeat(" ", 4000), "", -1)
}

// TestBenchReplayOfEachByte: another byte at each place, a log cut short at each place, and one that goes on.
func TestBenchReplayOfEachByte(t *testing.T) {
	for at := range len(longLog) {
		ahead, behind := longLog[:at], longLog[at+1:]
		for _, log := range []string{ahead, ahead + "\x00" + behind, ahead + "\xff" + behind, ahead + "~", ahead + "~" + behind, ahead + "~" + longLog} {
			if got := impl.ReplayBench(longScript, log); got != int64(at) {
				t.Errorf("unlike at %d: ReplayBench tells %d", at, got)
			}
		}
	}
	for _, more := range []string{"\n", " ", "show 1 1 0\n", "\x00", strings.Repeat("x", 5000)} {
		holdBenchReplay(t, longScript, longLog+more, int64(len(longLog)))
	}
	holdBenchReplay(t, longScript, strings.Replace(longLog, "tidy", "tide", 1), int64(strings.Index(longLog, "tidy")+3))
}

// TestBenchReplayOfOtherScripts: a line more or less, or another one, is told where it is said.
func TestBenchReplayOfOtherScripts(t *testing.T) {
	lines := strings.SplitAfter(longScript, "\n")
	told := map[int64]int{}
	for at := range lines {
		other := strings.Join(append(append([]string{}, lines[:at]...), lines[at+1:]...), "")
		want := benchReplayByWords(other, longLog)
		told[want]++
		holdBenchReplay(t, other, longLog, want)
		holdBenchReplay(t, fmt.Sprint(strings.Join(lines[:at], ""), "show\n", strings.Join(lines[at:], "")), longLog, benchReplayByWords(strings.Join(lines[:at], "")+"show\n"+strings.Join(lines[at:], ""), longLog))
	}
	if told[-1] < 3 || told[-1] > 10 || len(told) < 25 {
		t.Errorf("places told: %v", told)
	}
}
