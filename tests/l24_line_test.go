package tests

import (
	"fmt"
	"strings"
	"testing"

	"loop.example/g00049/impl"
)

// rightLines are lines of every word that the square bench takes, told with what is said.
func rightLines() map[string]string {
	return map[string]string{
		"up 40 0 1 1 100":             "up 40 3 0",
		"signal 40 0 1 1 100 20":      "signal 40 3 1",
		"put 1 2 3 5 1 2":             "put 1",
		"down 5":                      "down 5",
		"guard 40 1 3 1 60":           "guard 40 3 5",
		"pair 5 30":                   "",
		"undo 21":                     "undo 21",
		"fail 2":                      "fail 2 switched bare 10 rerouted 30 lost",
		"slide 5 2":                   "slide 5 2",
		"tidy":                        "tidy 0 5",
		"set Far-2 -7/2 mm":           "Far-2 = -7/2000 m",
		"sum w w w":                   "w = 3/500 m",
		"product area w w":            "area = 9/1000000 m^2",
		"quotient speed w w":          "speed = 1",
		"show":                        "show 6 5 1",
		"net 4 6":                     "",
		"fibre 0 2 10":                "",
		"put 9 2 3 5 1 2 2":           "",
		"quotient none nil nil":       "",
		"set w 7/0 m":                 "",
		"set w 70000000000000000 m":   "",
		"sum w w nil":                 "",
		"product w nobody w":          "",
		"fail 5":                      "",
		"up 10 0 1 1 100":             "",
		"signal 40 0 1 1 100 0":       "",
		"guard 40 0 2 6 1000":         "",
		"slide 21 4":                  "",
		"down 6":                      "",
		"undo 20":                     "",
		"product far Far-2 Far-2":     "",
		"put 0000000009 2 3 5 1 0002": "put 9",
	}
}

// noLines are none of a script's.
func noLines() []string {
	return []string{
		"go", "nets 2 2", "ne 2 2", "Net 2 2", "NET 2 2", "tidy.", "tidyy", "show#", "show,", "\tshow", "show\t", "show \t", "show\r", "show\v", "\x00", "show\x00", "\xff", "é",
		"1", "-", "=", "w", "w = 3", "no 4", "net2 2", "up-1", "set", "set w", "set w 1", "set w 1 m m", "set w 1 m #", "sum", "sum a", "sum a b", "sum a b c d",
		"product a b", "product a b c d", "quotient a b", "quotient a b c d", "show 1", "show #", "tidy 1", "tidy tidy", "show show", "sum a b c #", "up", "put", "put 1 2 3 4 5", "down", "down 1 2",
		"undo", "fail", "fail 1 2", "slide 1", "slide 1 2 3", "pair 1", "pair 1 2 3", "guard 1 2 3 4", "guard 1 2 3 4 5 6", "signal 1 2 3 4 5", "signal 1 2 3 4 5 6 7",
		"up 1 2 3 4", "up 1 2 3 4 5 6", "fibre 1 2", "fibre 1 2 3 4", "net 2", "net 2 2 2", "put 1 2 3 4 5 6 #", "put 1 2 3 4 5 6 x", "a#", "set 1 1 m", "set w 1 Mm", "set w x m",
	}
}

func TestStepOfRightLines(t *testing.T) {
	for line, say := range rightLines() {
		want := holdStepByWords(t, squareBench(), line)
		if want.Say != say || (want.Code == impl.OK) != (say != "") {
			t.Errorf("%q: the words tell %d and %q, not %q", line, want.Code, want.Say, say)
		}
	}
}

func TestStepOfNoLines(t *testing.T) {
	for _, line := range noLines() {
		holdStep(t, squareBench(), line, noStep(impl.ErrText))
		holdStep(t, impl.Bench{}, line, noStep(impl.ErrText))
	}
}

// TestStepOfAFaultyBench: its fault is told beside any line.
func TestStepOfAFaultyBench(t *testing.T) {
	lines := append(noLines(), "", " ", "#", "# show", "\n", "show\n", "net 0 0")
	for line := range rightLines() {
		lines = append(lines, line)
	}
	for what, b := range wrongBenches() {
		want := noStep(benchCodeByWords(b))
		for _, line := range lines {
			for range 2 {
				if got := impl.StepBench(b, line); fmt.Sprint(got) != fmt.Sprint(want) {
					t.Errorf("%s, %q: %s, want %s", what, line, brief(got), brief(want))
				}
			}
		}
		holdStep(t, b, "show", want)
		holdStep(t, b, "down 5", want)
		holdStep(t, b, "", want)
	}
}

// TestStepOfAByteTen: wherever it stands in a line, one that says nothing too.
func TestStepOfAByteTen(t *testing.T) {
	lines := []string{"", " ", "#", "# what it is", "show", "net 2 2", "set w 1 m", "go"}
	for _, line := range lines {
		for at := range len(line) + 1 {
			holdStep(t, squareBench(), line[:at]+"\n"+line[at:], noStep(impl.ErrText))
			holdStep(t, impl.Bench{}, line[:at]+"\n"+line[at:], noStep(impl.ErrText))
		}
	}
	holdStep(t, squareBench(), "show\nshow", noStep(impl.ErrText))
	holdStep(t, squareBench(), "#\n#", noStep(impl.ErrText))
	holdStep(t, squareBench(), "\n\n", noStep(impl.ErrText))
}

func TestStepThatSaysNothing(t *testing.T) {
	lines := []string{
		"", " ", "  ", strings.Repeat(" ", 5000), "#", "##", " #", "    # ", "#show", "# show", "  #show 1 2", "#\t", "#\xff\x00", "#é", "# net 2 2 #", "#" + strings.Repeat("x", 9000),
	}
	for _, line := range lines {
		for _, b := range []impl.Bench{{}, squareBench(), benchOf(impl.Net{}, nil, nil, threeSettings()...), benchOf(netOf(1, 1), nil, nil)} {
			holdStep(t, b, line, toldStep("", b))
		}
	}
	for _, line := range []string{"\t#", "\x00#", "\t", "\r", "\v", "\f", "\u00a0", "\u2003", "\x00", "show #", "w#", "-#"} {
		holdStep(t, squareBench(), line, noStep(impl.ErrText))
	}
}

// TestStepOfBlanks: words are parted by one blank or many, and blanks at the ends change nothing; other bytes are no blanks.
func TestStepOfBlanks(t *testing.T) {
	for line := range rightLines() {
		want := benchStepByWords(squareBench(), line)
		for _, gap := range []string{" ", "  ", "     ", strings.Repeat(" ", 500)} {
			wide := strings.ReplaceAll(line, " ", gap)
			for _, at := range [][2]string{{"", ""}, {gap, ""}, {"", gap}, {gap, gap}} {
				holdStep(t, squareBench(), at[0]+wide+at[1], want)
			}
		}
		for _, gap := range []string{"\t", " \t", "\t ", "\r", "\v", "\f", "\x00", "\u00a0", ",", "_", "."} {
			at := strings.Index(line, " ")
			if at > 0 {
				holdStep(t, squareBench(), line[:at]+gap+line[at+1:], noStep(impl.ErrText))
			}
		}
	}
}

// wordsOfLine are what is due behind each word: N is a number, A a name, T any text.
func wordsOfLine() map[string]string {
	return map[string]string{
		"net": "NN", "fibre": "NNN", "up": "NNNNN", "signal": "NNNNNN", "put": "NNNNNN", "down": "N", "guard": "NNNNN", "pair": "NN", "undo": "N", "fail": "N",
		"slide": "NN", "tidy": "", "set": "ATT", "sum": "AAA", "product": "AAA", "quotient": "AAA", "show": "",
	}
}

// lineWith has a word at a place, and what is due at all others.
func lineWith(word string, due string, at int, with string) string {
	line := word
	for i, kind := range due {
		switch {
		case i == at:
			line += " " + with
		case kind == 'T' && i == 2:
			line += " m"
		case kind == 'A':
			line += " w"
		default:
			line += " 1"
		}
	}
	return line
}

// TestStepOfWordsTooFewOrTooMany: a word less or more is no line, but for a put, whose path may be longer.
func TestStepOfWordsTooFewOrTooMany(t *testing.T) {
	for word, due := range wordsOfLine() {
		for count := range len(due) {
			holdStep(t, squareBench(), lineWith(word, due[:count], -1, ""), noStep(impl.ErrText))
			holdStep(t, impl.Bench{}, lineWith(word, due[:count], -1, ""), noStep(impl.ErrText))
		}
		all := lineWith(word, due, -1, "")
		if got := holdStepByWords(t, squareBench(), all); got.Code == impl.ErrText {
			t.Errorf("%q has code %d", all, got.Code)
		}
		for _, more := range []string{" 1", " w", " m", " #", " 1 1", " 1 1 1 1 1 1 1 1 1 1"} {
			if word != "put" {
				holdStep(t, squareBench(), all+more, noStep(impl.ErrText))
				holdStep(t, impl.Bench{}, all+more, noStep(impl.ErrText))
			}
		}
	}
	for count := 1; count <= 30; count++ {
		got := holdStepByWords(t, squareBench(), "put 7 0 1 5 1"+strings.Repeat(" 0", count))
		if (count == 1) != (got.Code == impl.OK) || got.Code == impl.ErrText {
			t.Errorf("a put with %d fibres has code %d", count, got.Code)
		}
	}
	for _, last := range []string{"x", "-1", "1.", "01234567890", "#"} {
		for count := range 4 {
			holdStep(t, squareBench(), "put 7 0 1 5 1"+strings.Repeat(" 0", count)+" "+last, noStep(impl.ErrText))
		}
	}
}

// TestStepOfNumbers: of 1 to 10 digits, with noughts ahead too, and nothing else, at each place where a number is due.
func TestStepOfNumbers(t *testing.T) {
	right := []string{"0", "1", "9", "00", "01", "0000000001", "0000000000", "12", "64", "999999999", "1000000000", "1234567890", "9999999999", "4294967296", "4294967297"}
	wrong := []string{
		"-1", "+1", "-0", "--1", "1-", "1.", "1.0", ".1", "1,0", "1e3", "0x1", "1_0", "1/1", "00000000000", "00000000001", "12345678901", "10000000000", "99999999999", "x", "one", "m", "#",
		"1#", "1\t", "\t1", "1\x00", "1\xff", "\u0661", "\uff11", "1\u0661", ":", "/", "1:", "1/", strings.Repeat("0", 100), strings.Repeat("9", 5000),
	}
	for word, due := range wordsOfLine() {
		for at, kind := range due {
			if kind != 'N' {
				continue
			}
			for _, number := range right {
				if got := holdStepByWords(t, squareBench(), lineWith(word, due, at, number)); got.Code == impl.ErrText {
					t.Errorf("%s at %d is no number of %s", number, at, word)
				}
			}
			for _, number := range wrong {
				holdStep(t, squareBench(), lineWith(word, due, at, number), noStep(impl.ErrText))
				holdStep(t, impl.Bench{}, lineWith(word, due, at, number), noStep(impl.ErrText))
			}
		}
	}
}

// TestStepOfNames: at each place where a name is due; a word that is none makes the line none, ahead of what is not set.
func TestStepOfNames(t *testing.T) {
	for word, due := range wordsOfLine() {
		for at, kind := range due {
			if kind != 'A' {
				continue
			}
			for _, name := range append(rightNames(), "net", "show", "m", "no", "N", "A", "T") {
				got := holdStepByWords(t, squareBench(), lineWith(word, due, at, name))
				if at == 0 && got.Code != impl.OK && word != "sum" || at > 0 && got.Code != impl.ErrNone {
					t.Errorf("%s by the name %s at %d has code %d", word, name, at, got.Code)
				}
			}
			for _, name := range append(wrongNames(), "1", "=", "#", "#w", "w#", "w,", "+w", "w\t") {
				holdStep(t, squareBench(), lineWith(word, due, at, name), noStep(impl.ErrText))
				holdStep(t, impl.Bench{}, lineWith(word, due, at, name), noStep(impl.ErrText))
			}
		}
	}
}

// TestStepOfFirstWords: each is one of the table's to the last byte.
func TestStepOfFirstWords(t *testing.T) {
	for word, due := range wordsOfLine() {
		for _, near := range []string{strings.ToUpper(word), strings.ToUpper(word[:1]) + word[1:], word[1:], word[:len(word)-1], word + "s", word + "1", word + "-", word + ".", word + ":", "-" + word, "x" + word, word + word, "1", "w", word + "\x00"} {
			holdStep(t, squareBench(), lineWith(near, due, -1, ""), noStep(impl.ErrText))
		}
		holdStep(t, squareBench(), lineWith("#"+word, due, -1, ""), toldStep("", squareBench()))
		holdStep(t, squareBench(), lineWith("# "+word, due, -1, ""), toldStep("", squareBench()))
	}
}
