package tests

import (
	"math"
	"regexp"
	"slices"
	"strconv"
	"strings"
	"testing"

	"loop.example/g00049/impl"
)

// fullText tells fullLens.
const fullText = "lens \u03bb-zoom4\n" +
	"medium K7 3/2\n" +
	"medium \u03a3\u03a7 8/5\n" +
	"medium Q 1\n" +
	"surf r 50 t 2 m K7 semi 10 stop\n" +
	"surf r pick 0 -1 t 1/2 m air\n" +
	"surf r 0 t pick 0 1/2 m \u03a3\u03a7 conic -1/2\n" +
	"surf r pick 1 3/2 t -7/3 m K7\n" +
	"surf r pick 3 1/3 t solve m air semi 1/3 conic 2\n" +
	"zoom 3 1 2 3\n" +
	"zoom 0 0 15 -75\n"

// lengthOfRune is how many bytes the first rune of a text has, 0 if it is no well-formed UTF-8, by the ranges that Unicode's standard tells.
func lengthOfRune(text string) int {
	within := func(at int, low byte, high byte) bool {
		return at < len(text) && text[at] >= low && text[at] <= high
	}
	for _, row := range []struct {
		low, high, second, last byte
		length                  int
	}{
		{0x00, 0x7F, 0, 0, 1}, {0xC2, 0xDF, 0x80, 0xBF, 2}, {0xE0, 0xE0, 0xA0, 0xBF, 3}, {0xE1, 0xEC, 0x80, 0xBF, 3}, {0xED, 0xED, 0x80, 0x9F, 3},
		{0xEE, 0xEF, 0x80, 0xBF, 3}, {0xF0, 0xF0, 0x90, 0xBF, 4}, {0xF1, 0xF3, 0x80, 0xBF, 4}, {0xF4, 0xF4, 0x80, 0x8F, 4},
	} {
		right := within(0, row.low, row.high) && (row.length == 1 || within(1, row.second, row.last))
		for at := 2; at < row.length; at++ {
			right = right && within(at, 0x80, 0xBF)
		}
		if right {
			return row.length
		}
	}
	return 0
}

// valForms are the ways to tell a value; a word in angles stands for all words of its kind.
func valForms() [][]string {
	return [][]string{{"<F>"}, {"pick", "<N>", "<F>"}, {"solve"}}
}

// surfForms are all forms of a `surf` line.
var surfForms = makeSurfForms()

func makeSurfForms() [][]string {
	forms := [][]string{}
	for _, r := range valForms() {
		for _, t := range valForms() {
			for tail := range 8 {
				form := slices.Concat([]string{"surf", "r"}, r, []string{"t"}, t, []string{"m", "<name>"})
				for i, more := range [][]string{{"semi", "<F>"}, {"conic", "<F>"}, {"stop"}} {
					if tail>>i&1 == 1 {
						form = append(form, more...)
					}
				}
				forms = append(forms, form)
			}
		}
	}
	return forms
}

// lensForms are all forms of the lines that begin with that word, of those of any length so many words and fewer.
func lensForms(first string, words int) [][]string {
	switch first {
	case "lens":
		return [][]string{{"lens", "<name>"}}
	case "medium":
		return [][]string{{"medium", "<name>", "<F>"}}
	case "surf":
		return surfForms
	}
	zooms := [][]string{}
	for gaps := 1; gaps <= max(1, words); gaps++ {
		zooms = append(zooms, append([]string{"zoom", "<N>"}, slices.Repeat([]string{"<F>"}, gaps)...))
	}
	return zooms
}

// dueBehind are the first words of lines that may stand behind a line of that first word.
func dueBehind(last string) []string {
	return map[string][]string{"": {"lens"}, "lens": {"medium", "surf", "zoom"}, "medium": {"medium", "surf", "zoom"}, "surf": {"surf", "zoom"}, "zoom": {"zoom"}}[last]
}

var lensPlaceForm = regexp.MustCompile(`^[0-9]{1,4}$`)

// fitting are the forms that may have that word at that place.
func fitting(forms [][]string, place int, word string) [][]string {
	kinds := map[string]bool{word: true}
	kinds["<name>"], kinds["<N>"], kinds["<F>"] = isNameByWords(word), lensPlaceForm.MatchString(word), readSlowly(word).Code == impl.OK
	left := [][]string{}
	for _, form := range forms {
		if place < len(form) && kinds[form[place]] {
			left = append(left, form)
		}
	}
	return left
}

// formOfLine finds the form of a line's words; without one, it answers how many of them are due.
func formOfLine(last string, words []string) ([]string, int) {
	forms := [][]string{}
	for _, first := range dueBehind(last) {
		forms = append(forms, lensForms(first, len(words))...)
	}
	for i, word := range words {
		if forms = fitting(forms, i, word); len(forms) == 0 {
			return nil, i
		}
	}
	for _, form := range forms {
		if len(form) == len(words) {
			return form, len(words)
		}
	}
	return nil, len(words)
}

func valByWords(words []string) impl.Val {
	switch words[0] {
	case "solve":
		return solveVal()
	case "pick":
		from, _ := strconv.ParseInt(words[1], 10, 64)
		f := readSlowly(words[2]).Frac
		return pickVal(from, f.Num, f.Den)
	}
	f := readSlowly(words[0]).Frac
	return toldVal(f.Num, f.Den)
}

// putLine puts a line of that form into the lens.
func putLine(l *impl.Lens, form []string, words []string) {
	switch form[0] {
	case "lens":
		l.Name = words[1]
	case "medium":
		l.Media = append(l.Media, impl.Medium{Name: words[1], Index: readSlowly(words[2]).Frac})
	case "surf":
		s := plainSurf(impl.Val{}, impl.Val{}, "")
		for i, word := range form {
			switch word {
			case "r":
				s.Radius = valByWords(words[i+1:])
			case "t":
				s.Gap = valByWords(words[i+1:])
			case "m":
				s.Medium = words[i+1]
			case "semi":
				s.Semi = readSlowly(words[i+1]).Frac
			case "conic":
				s.Conic = readSlowly(words[i+1]).Frac
			case "stop":
				s.Stop = true
			}
		}
		l.Surfs = append(l.Surfs, s)
	case "zoom":
		at, _ := strconv.ParseInt(words[1], 10, 64)
		z := impl.Zoom{Surf: at}
		for _, word := range words[2:] {
			z.Gaps = append(z.Gaps, readSlowly(word).Frac)
		}
		l.Zooms = append(l.Zooms, z)
	}
}

// readLensSlowly is what the document asks ParseLens for, by all forms that a line may have.
func readLensSlowly(text string) impl.LensText {
	if len(text) > 4000 {
		return impl.LensText{Code: impl.ErrMany}
	}
	for at := 0; at < len(text); at += lengthOfRune(text[at:]) {
		if lengthOfRune(text[at:]) == 0 {
			return impl.LensText{Code: impl.ErrText, At: int64(at)}
		}
	}
	l, last, from := impl.Lens{}, "", 0
	for _, line := range strings.Split(text, "\n") {
		told := line
		if cut := strings.IndexAny(line, "#\u00a7"); cut >= 0 {
			told = line[:cut]
		}
		words, places := glassWord.FindAllString(told, -1), placesOf(told)
		if len(words) > 0 {
			form, due := formOfLine(last, words)
			switch {
			case form == nil && due < len(words):
				return impl.LensText{Code: impl.ErrText, At: int64(from + places[due])}
			case form == nil:
				return impl.LensText{Code: impl.ErrText, At: int64(from + len(line))}
			}
			putLine(&l, form, words)
			last = form[0]
		}
		from += len(line) + 1
	}
	if last == "" {
		return impl.LensText{Code: impl.ErrText, At: int64(len(text))}
	}
	if code := lensFaultByWords(l); code != impl.OK {
		return impl.LensText{Code: code}
	}
	return impl.LensText{Lens: l}
}

func gapsOf(l impl.Lens) [][]impl.Frac {
	lists := [][]impl.Frac{}
	for _, z := range l.Zooms {
		lists = append(lists, z.Gaps)
	}
	return lists
}

// holdLens asks for an answer, and for the same one again in memory of its own.
func holdLens(t *testing.T, text string, want impl.LensText) {
	t.Helper()
	got, again := impl.ParseLens(text), impl.ParseLens(text)
	for _, answer := range []impl.LensText{got, again} {
		if answer.Code != want.Code || answer.At != want.At || !sameLens(answer.Lens, want.Lens) {
			t.Errorf("ParseLens(%.700q) = %s, want %s", text, brief(answer), brief(want))
		}
	}
	apart(t, gapsOf(got.Lens), gapsOf(again.Lens))
	apart(t, [][]impl.Zoom{got.Lens.Zooms}, [][]impl.Zoom{again.Lens.Zooms})
	apart(t, [][]impl.Surf{got.Lens.Surfs}, [][]impl.Surf{again.Lens.Surfs})
	apart(t, [][]impl.Medium{got.Lens.Media}, [][]impl.Medium{again.Lens.Media})
}

func holdLensStuck(t *testing.T, text string, code int64, at int) {
	t.Helper()
	holdLens(t, text, impl.LensText{Code: code, At: int64(at)})
}

func holdLensRead(t *testing.T, text string, l impl.Lens) {
	t.Helper()
	holdLens(t, text, impl.LensText{Lens: l})
}

func TestParseFullLens(t *testing.T) {
	holdLensRead(t, fullText, fullLens())
	holdLensRead(t, strings.TrimSuffix(fullText, "\n"), fullLens())
	holdLensRead(t, strings.ReplaceAll(fullText, " ", "    "), fullLens())
	holdLensRead(t, "  "+strings.ReplaceAll(fullText, "\n", "  \n  "), fullLens())
	holdLensRead(t, "\n\n  \n"+strings.ReplaceAll(fullText, "\n", "\n \n\n"), fullLens())
	holdLensRead(t, "# a remark\n"+strings.ReplaceAll(fullText, "\n", "# lens x\n"), fullLens())
	holdLensRead(t, strings.ReplaceAll(fullText, "\n", "\u00a7\n\u00a7 surf\n"), fullLens())
}

func TestParseFewLines(t *testing.T) {
	one := lensOf(nil, plainSurf(toldVal(1, 1), toldVal(2, 1), "air"))
	for _, text := range []string{"lens x\nsurf r 1 t 2 m air", "lens x\nsurf r 1 t 2 m air\n", "lens x\n\nsurf r 1.0 t 4/2 m air semi 0 conic 0.00", "lens x\nsurf r 01 t 02 m air semi -0"} {
		holdLensRead(t, text, one)
	}
	solved := lensOf(nil, plainSurf(toldVal(1, 1), solveVal(), "air"))
	holdLensRead(t, "lens x\nsurf r 1 t solve m air", solved)
	zoomed := copyOfLens(one)
	zoomed.Zooms = []impl.Zoom{{Surf: 0, Gaps: wholes(5)}}
	holdLensRead(t, "lens x\nsurf r 1 t 2 m air\nzoom 0 5", zoomed)
	holdLensRead(t, "lens x\nsurf r 1 t 2 m air\nzoom 0000 5.0", zoomed)
	for tail, change := range map[string]func(*impl.Surf){
		"":                     func(s *impl.Surf) {},
		" semi 3":              func(s *impl.Surf) { s.Semi = frac(3, 1) },
		" conic -3":            func(s *impl.Surf) { s.Conic = frac(-3, 1) },
		" stop":                func(s *impl.Surf) { s.Stop = true },
		" semi 1/3 conic 2":    func(s *impl.Surf) { s.Semi, s.Conic = frac(1, 3), frac(2, 1) },
		" semi 3 stop":         func(s *impl.Surf) { s.Semi, s.Stop = frac(3, 1), true },
		" conic .5":            nil,
		" conic 0.5 stop":      func(s *impl.Surf) { s.Conic, s.Stop = frac(1, 2), true },
		" semi 1 conic 1 stop": func(s *impl.Surf) { s.Semi, s.Conic, s.Stop = frac(1, 1), frac(1, 1), true },
	} {
		text := "lens x\nsurf r 1 t 2 m air" + tail
		if change == nil {
			holdLensStuck(t, text, impl.ErrText, len(text)-2)
			continue
		}
		holdLensRead(t, text, changedLens(one, func(l *impl.Lens) { change(&l.Surfs[0]) }))
	}
}

func TestTextsWithoutALens(t *testing.T) {
	for _, text := range []string{"", " ", "\n", "\n\n", "   \n  ", "#", "\u00a7", "# lens x\nsurf r 1 t 1 m air"[:8], "#lens x", " # x\n\u00a7 y\n", "\u00a7\u00a7\u00a7", strings.Repeat("\n", 4000), strings.Repeat("#", 4000), strings.Repeat("\u00a7", 2000)} {
		holdLensStuck(t, text, impl.ErrText, len(text))
	}
	for _, text := range []string{strings.Repeat("\n", 4001), strings.Repeat("#", 4001), strings.Repeat("x", 4001), strings.Repeat("\xff", 4001), "#" + strings.Repeat("\u00a7", 2000), strings.Repeat("\u00a7", 500000)} {
		holdLensStuck(t, text, impl.ErrMany, 0)
	}
}

// aheadOfAll are beginnings of a text, behind which lines of every kind are due, and behindAll what may stand behind a line that is wrong.
func aheadOfAll() []string {
	return []string{"lens x\n", "\n # x\n  lens   \u03bb\u03a7 \u00a7 \u03bb\n\n", "lens x\nmedium A 2\n"}
}

func behindAll() []string {
	return []string{"", "\n", "\n?", "\nlens y", "\n# x\nsurf r 1 t 1 m air"}
}

func holdLineStuck(t *testing.T, line string, at int) {
	t.Helper()
	for _, ahead := range aheadOfAll() {
		for _, behind := range behindAll() {
			holdLensStuck(t, ahead+line+behind, impl.ErrText, len(ahead)+at)
		}
	}
}

// linesOfEveryKind are lines that are due behind a `lens` line, with as many words as there may be and with few.
func linesOfEveryKind() []string {
	return []string{
		"medium K7 3/2", "medium \u03bb\u03a7 1.5", "surf r 50 t 2 m air", "surf r pick 0 -1 t pick 0 1/2 m \u03bb\u03a7 semi 10 conic -1/2 stop", "surf r solve t solve m \u03a3 stop",
		"surf r 1 t solve m air conic 1", "surf  r  pick  12  3  t  4  m  A  semi  5  ", "zoom 0 1", "zoom 17 1 -2 3/4 0.5", "  zoom  0017  1  2 ",
	}
}

// wrongWords are due nowhere.
func wrongWords() []string {
	list := []string{"?", "-", "--1", "1-", "+1", "1x", "1.", ".5", "1/", "/2", "1/0", "1/00", "-.5", "1.5/2", "1e3", "1000000001", "1/1000000001", "0.0000000001", strings.Repeat("1", 19), "0." + strings.Repeat("0", 18), "\t", "1\t", "x\r", "\u00a0", "\u22121", "\uff11", "\u0663", "\ufffd", "\ufeff", "x_", "x.", "\u00e9", "x\u0400", "7x", "-x", strings.Repeat("x", 41)}
	return append(list, "\u03bb1\u036f")
}

func TestWordsThatAreNotDueInALens(t *testing.T) {
	for _, line := range linesOfEveryKind() {
		places, words := placesOf(line), strings.Fields(line)
		for i, at := range places {
			wrongs := wrongWords()
			if i == 0 {
				wrongs = append(wrongs, "Surf", "SURF", "surfs", "sur", "surface", "lens", "Lens", "0", "1", "x", "r", "air", words[0]+words[0], "\u03bb")
			}
			for _, wrong := range wrongs {
				holdLensStuck(t, "lens x\n"+line[:at]+wrong+line[at+len(words[i]):], impl.ErrText, 7+at)
				// What stands behind the wrong word is not looked at.
				holdLensStuck(t, "lens x\n"+line[:at]+wrong, impl.ErrText, 7+at)
				holdLensStuck(t, "lens x\n"+line[:at]+wrong+"# ?\nlens y\n?", impl.ErrText, 7+at)
			}
			holdLineStuck(t, line[:at]+"?"+line[at+len(words[i]):], at)
		}
	}
}

// Each word of each line in the place of each other one, held against the slow reader.
func TestWordsOfALensInOtherPlaces(t *testing.T) {
	others := []string{"lens", "medium", "surf", "zoom", "r", "t", "m", "semi", "conic", "stop", "pick", "solve", "air", "\u03bb", "0", "7", "1234", "12345", "01", "-1", "1/2", "0.5", "1.0", "-0"}
	due := 0
	for _, line := range linesOfEveryKind() {
		places, words := placesOf(line), strings.Fields(line)
		for i, at := range places {
			for _, other := range others {
				for _, text := range []string{line[:at] + other + line[at+len(words[i]):], line[:at] + other + " " + line[at:], line[:at] + other} {
					want := readLensSlowly("lens x\n" + text)
					if want.Code == impl.ErrForm {
						due++
					}
					holdLens(t, "lens x\n"+text, want)
				}
			}
		}
	}
	if due < 100 {
		t.Errorf("only %d are due", due)
	}
}

// The words of the language are due just as they stand, without a byte more, less or of another case.
func TestWordsOfALensAreSpeltJustSo(t *testing.T) {
	line := "surf r pick 0 1 t solve m air semi 1 conic 1 stop"
	places, words := placesOf(line), strings.Fields(line)
	for i, word := range words {
		for _, near := range []string{strings.ToUpper(word), strings.ToUpper(word[:1]) + word[1:], word + word, word + "s", word[:len(word)-1] + "x", "x" + word, word + "-", word + "\u0301"} {
			if near == word || word == "air" || word == "0" || word == "1" {
				continue
			}
			holdLineStuck(t, line[:places[i]]+near+line[places[i]+len(word):], places[i])
		}
	}
	for _, line := range []string{"Lens x", "LENS x", "lense x", "len x", "\u03bbens x", "lens: x", "lensx"} {
		holdLensStuck(t, line+"\nsurf r 1 t 1 m air", impl.ErrText, 0)
	}
	for _, line := range []string{"Medium A 2", "mediums A 2", "Zoom 0 1", "zooms 0 1", "Surf r 1 t 1 m air"} {
		holdLineStuck(t, line, 0)
	}
}

func TestWordsThatAreMissingInALens(t *testing.T) {
	for _, line := range linesOfEveryKind() {
		places := placesOf(line)
		for _, at := range places[1:] {
			cut := strings.TrimRight(line[:at], " ")
			if form, _ := formOfLine("lens", strings.Fields(cut)); form != nil {
				continue // of some lines the last words may be left out
			}
			for _, blanks := range []string{"", " ", "    ", "#", " # more", "\u00a7", " \u00a7 \u03bb #", "#\u00a7\u03a7 "} {
				holdLineStuck(t, cut+blanks, len(cut+blanks))
			}
		}
	}
	// The whole ways that a `surf` line can be cut off.
	for _, line := range []string{"surf", "surf r", "surf r 1", "surf r pick", "surf r pick 0", "surf r pick 0 1", "surf r solve", "surf r 1 t", "surf r 1 t pick", "surf r 1 t pick 0", "surf r 1 t 1", "surf r 1 t solve", "surf r 1 t 1 m", "surf r 1 t 1 m air semi", "surf r 1 t 1 m air conic", "surf r 1 t 1 m air semi 1 conic", "medium", "medium A", "zoom", "zoom 0"} {
		holdLineStuck(t, line, len(line))
	}
	for _, line := range []string{"lens", "lens ", "lens # x", "lens\u00a7\u03bb", "  lens   "} {
		for _, behind := range behindAll() {
			holdLensStuck(t, line+behind, impl.ErrText, len(line))
		}
	}
	// A line ends where it ends: the next one's words are not its.
	holdLensStuck(t, "lens\nx", impl.ErrText, 4)
	holdLensStuck(t, "lens x\nsurf r\n1 t 1 m air", impl.ErrText, 13)
}

func TestOneWordTooManyInALens(t *testing.T) {
	for _, line := range []string{"medium A 2", "surf r 1 t 1 m air stop", "surf r pick 0 1 t solve m \u03bb semi 1 conic 1 stop"} {
		for _, more := range []string{"0", "x", "air", "stop", "semi", "conic", "?", "lens", "\t"} {
			holdLineStuck(t, line+" "+more, len(line)+1)
			holdLineStuck(t, line+"   "+more+" 1 # x", len(line)+3)
		}
	}
	for line, at := range map[string]int{
		"surf r 1 t 1 m air semi 1 semi 1": 26, "surf r 1 t 1 m air conic 1 semi 1": 27, "surf r 1 t 1 m air conic 1 conic 1": 27, "surf r 1 t 1 m air stop semi 1": 24, "surf r 1 t 1 m air stop stop": 24, "surf r 1 t 1 m air stop conic 1": 24,
		"surf r 1 t 1 m air air": 19, "surf r 1 t 1 m air 5": 19, "surf r 1 2 t 1 m air": 9, "surf r solve 1 t 1 m air": 13, "surf r pick 0 1 1 t 1 m air": 16, "surf r 1 t solve 0 m air": 17, "zoom 0 1 2 x": 11, "zoom 0 1 zoom": 9, "zoom 0 1 # 2 x\nzoom 1 stop": 22,
		"surf t 1 r 1 m air": 5, "surf r 1 m air t 1": 9, "surf r t 1 m air": 7, "surf r 1 t m air": 11, "surf m air r 1 t 1": 5, "zoom x 1": 5, "zoom -1 1": 5, "zoom 1/1 1": 5, "zoom 1.0 1": 5, "zoom 00000 1": 5, "zoom 10000 1": 5,
	} {
		holdLineStuck(t, line, at)
	}
	for _, line := range []string{"lens x y", "lens x lens", "lens x 1"} {
		holdLensStuck(t, line+"\nsurf r 1 t 1 m air", impl.ErrText, 7)
	}
}

func TestNamesInALens(t *testing.T) {
	for _, name := range rightLensNames() {
		holdLensRead(t, "lens "+name+"\nsurf r 1 t 1 m air", changedLens(lensOf(nil, plainSurf(toldVal(1, 1), toldVal(1, 1), "air")), func(l *impl.Lens) { l.Name = name }))
		if name != "air" {
			holdLensRead(t, "lens x\nmedium "+name+" 2\nsurf r 1 t 1 m "+name, lensOf([]impl.Medium{medium(name, 2, 1)}, plainSurf(toldVal(1, 1), toldVal(1, 1), name)))
			// Places count bytes, of which a Greek letter has two.
			holdLensStuck(t, "lens "+name+" ?", impl.ErrText, 6+len(name))
			holdLensStuck(t, "lens "+name+"\nmedium "+name+" ?", impl.ErrText, 14+2*len(name))
			holdLensStuck(t, "lens "+name+" # \u03bb\u03bb\nmedium "+name, impl.ErrText, 5+len(name)+15+len(name))
		}
	}
	for _, name := range wrongLensNames() {
		holdLensStuck(t, "lens "+name+"\nsurf r 1 t 1 m air", impl.ErrText, 5)
		holdLensStuck(t, "lens x\nmedium "+name+" 2\nsurf r 1 t 1 m air", impl.ErrText, 14)
		holdLensStuck(t, "lens x\nsurf r 1 t 1 m "+name, impl.ErrText, 22)
	}
}

func TestFractionsInALens(t *testing.T) {
	for word, f := range map[string]impl.Frac{"0": frac(0, 1), "-0": frac(0, 1), "00": frac(0, 1), "0/5": frac(0, 1), "5": frac(5, 1), "-5": frac(-5, 1), "2.50": frac(5, 2), "-6/4": frac(-3, 2), "1000000000": frac(impl.MaxNum, 1), "-1/1000000000": frac(-1, impl.MaxNum), "0.000000001": frac(1, impl.MaxNum), "000000000000000007": frac(7, 1)} {
		l := lensOf(nil, plainSurf(valOf(f), valOf(f), "air"), plainSurf(pickVal(0, f.Num, f.Den), pickVal(0, f.Num, f.Den), "air"))
		l.Surfs[0].Conic, l.Zooms = f, []impl.Zoom{{Surf: 0, Gaps: []impl.Frac{f, f}}}
		text := strings.ReplaceAll("lens x\nsurf r F t F m air conic F\nsurf r pick 0 F t pick 0 F m air\nzoom 0 F F", "F", word)
		holdLensRead(t, text, l)
		if f.Num >= 0 {
			l.Surfs[1].Semi = f
			holdLensRead(t, strings.Replace(text, "m air\n", "m air semi "+word+"\n", 1), l)
		}
		if f.Num > 0 {
			l.Surfs[1].Semi, l.Media = frac(0, 1), []impl.Medium{{Name: "A", Index: f}}
			holdLensRead(t, strings.Replace(text, "\n", "\nmedium A "+word+"\n", 1), l)
		}
	}
}

func TestPlacesInALens(t *testing.T) {
	two := "lens x\nsurf r 1 t 1 m air\nsurf r pick N 2 t 1 m air"
	for _, word := range []string{"0", "00", "000", "0000"} {
		holdLensRead(t, strings.ReplaceAll(two, "N", word), lensOf(nil, plainSurf(toldVal(1, 1), toldVal(1, 1), "air"), plainSurf(pickVal(0, 2, 1), toldVal(1, 1), "air")))
	}
	// They are numbers, but of surfaces that are not ahead or not there.
	for _, word := range []string{"1", "9", "10", "99", "100", "999", "1000", "9999", "0001", "01"} {
		holdLensStuck(t, strings.ReplaceAll(two, "N", word), impl.ErrForm, 0)
		if word != "1" && word != "0001" && word != "01" {
			holdLensStuck(t, "lens x\nsurf r 1 t 1 m air\nsurf r 1 t 1 m air\nzoom "+word+" 1", impl.ErrForm, 0)
		}
	}
	for _, word := range []string{"00000", "00001", "10000", "99999", "-0", "-1", "0/1", "0.0", "1/1", "x", "solve", "pick", "+0", "0x0", "\u0660", strings.Repeat("0", 18), strings.Repeat("0", 100), "18446744073709551616"} {
		holdLensStuck(t, strings.ReplaceAll(two, "N", word), impl.ErrText, 38)
		holdLensStuck(t, "lens x\nsurf r 1 t 1 m air\nzoom "+word+" 1", impl.ErrText, 31)
	}
}

// All orders of up to five lines of the four kinds, held against the slow reader, and some by name.
func TestOrderOfLines(t *testing.T) {
	lines := map[string]string{"lens": "lens x", "medium": "medium A 2", "surf": "surf r 1 t 1 m air", "zoom": "zoom 0 1"}
	seen := map[int64]int{}
	for _, order := range textsOf([]string{"lens ", "medium ", "surf ", "zoom ", "other "}, 4000) {
		text, last, stuck := "", "", -1
		for _, kind := range strings.Fields(order) {
			if stuck < 0 && !slices.Contains(dueBehind(last), kind) {
				stuck = len(text)
			}
			text, last = text+lines[kind]+"\n", kind
			if kind == "other" {
				text = strings.TrimSuffix(text, "\n") + "other\n"
			}
		}
		want := readLensSlowly(text)
		if stuck >= 0 && (want.Code != impl.ErrText || want.At != int64(stuck)) {
			t.Errorf("%q: %s, but line %d is not due", text, brief(want), stuck)
		}
		seen[want.Code]++
		holdLens(t, text, want)
	}
	if seen[impl.OK] < 5 || seen[impl.ErrForm] < 10 || seen[impl.ErrText] < 1000 {
		t.Error(seen)
	}
	holdLensStuck(t, "surf r 1 t 1 m air\nlens x", impl.ErrText, 0)
	holdLensStuck(t, "medium A 2\nlens x", impl.ErrText, 0)
	holdLensStuck(t, "lens x\nlens x", impl.ErrText, 7)
	holdLensStuck(t, "lens x\nsurf r 1 t 1 m air\nlens x", impl.ErrText, 26)
	holdLensStuck(t, "lens x\nsurf r 1 t 1 m air\nmedium A 2", impl.ErrText, 26)
	holdLensStuck(t, "lens x\nsurf r 1 t 1 m air\nzoom 0 1\nsurf r 1 t 1 m air", impl.ErrText, 35)
	holdLensStuck(t, "lens x\nsurf r 1 t 1 m air\nzoom 0 1\nmedium A 2", impl.ErrText, 35)
	// A lens line alone, and zooms without surfaces, read well, but there is no surface.
	holdLensStuck(t, "lens x", impl.ErrForm, 0)
	holdLensStuck(t, "lens x\nmedium A 2\n", impl.ErrForm, 0)
	holdLensStuck(t, "lens x\nzoom 0 1", impl.ErrForm, 0)
	holdLensStuck(t, "lens x\nzoom 0 1\nsurf r 1 t 1 m air", impl.ErrText, 16)
}

func TestRemarks(t *testing.T) {
	one := lensOf(nil, plainSurf(toldVal(1, 1), toldVal(2, 1), "air"))
	rests := []string{"", " ", "x", " lens y", "#", "##", "\u00a7", "\u00a7#\u00a7", "\u03bb\u03a7", "\U0001d6c0\u20ac\u00e9", "\ufffd\ufeff\u2028\u0085", "\t\r\x00\x7f", "surf r 1 t 1 m air", "\u03a7\u00a7", "stop"}
	for _, begin := range []string{"#", "\u00a7"} {
		for _, rest := range rests {
			remark := begin + rest
			for _, text := range []string{
				remark + "\nlens x\nsurf r 1 t 2 m air", "lens x" + remark + "\nsurf r 1 t 2 m air", "lens x " + remark + "\n" + remark + "\n  " + remark + "\nsurf r 1 t 2 m air" + remark, "lens x\nsurf r 1 t 2 m air " + remark + "\n", "lens x\nsurf r 1 t 2 m air\n" + remark,
			} {
				holdLensRead(t, text, one)
			}
			// A remark cuts its line off, and its own bytes are counted: the place is that of the line's end.
			holdLensStuck(t, "lens"+remark+" x\nsurf r 1 t 2 m air", impl.ErrText, len("lens"+remark+" x"))
			holdLensStuck(t, "lens x\nsurf r 1 t 2 m"+remark, impl.ErrText, len("lens x\nsurf r 1 t 2 m"+remark))
			holdLensStuck(t, "lens x\nsurf r 1 "+remark+"\nt 2 m air", impl.ErrText, len("lens x\nsurf r 1 "+remark))
			// Behind it places go on by bytes.
			holdLensStuck(t, remark+"\n"+remark+"\n ?", impl.ErrText, 2*len(remark)+3)
			holdLensStuck(t, "lens x "+remark+"\n?", impl.ErrText, len("lens x "+remark)+1)
		}
	}
	// A remark within what would be a word.
	holdLensRead(t, "lens x#y\nsurf r 1 t 2 m air\u00a7semi", one)
	holdLensRead(t, "lens x\nsurf r 1 t 2 m air\u00a7semi\n#zoom", one)
	holdLensStuck(t, "le#ns x", impl.ErrText, 0)
	holdLensStuck(t, "lens x\nsurf r 1#2 t 2 m air", impl.ErrText, 27)
	// Runes that share bytes with U+00A7 are none.
	holdLensStuck(t, "lens x\u00a6\nsurf r 1 t 2 m air", impl.ErrText, 5)
	holdLensStuck(t, "lens x\u00a8\nsurf r 1 t 2 m air", impl.ErrText, 5)
	holdLensStuck(t, "lens x\u00e7\nsurf r 1 t 2 m air", impl.ErrText, 5)
	holdLensStuck(t, "lens x\u01a7\nsurf r 1 t 2 m air", impl.ErrText, 5)
	holdLensStuck(t, "lens x\uff03\nsurf r 1 t 2 m air", impl.ErrText, 5)
	holdLensRead(t, "lens \u03a7\u03a7\nsurf r 1 t 2 m air", changedLens(one, func(l *impl.Lens) { l.Name = "\u03a7\u03a7" }))
}

// Only bytes 10 end lines, only blanks part words.
func TestOtherBlanks(t *testing.T) {
	holdLensStuck(t, "lens x\r\nsurf r 1 t 2 m air", impl.ErrText, 5)
	holdLensStuck(t, "lens\tx\nsurf r 1 t 2 m air", impl.ErrText, 0)
	holdLensStuck(t, "lens x\nsurf r 1 t 2 m air\t", impl.ErrText, 22)
	holdLensStuck(t, "lens x\vsurf r 1 t 2 m air", impl.ErrText, 5)
	holdLensStuck(t, "lens x\u2028surf r 1 t 2 m air", impl.ErrText, 5)
	holdLensStuck(t, "lens x\u0085surf r 1 t 2 m air", impl.ErrText, 5)
	holdLensStuck(t, "lens\u00a0x", impl.ErrText, 0)
	holdLensStuck(t, "\ufefflens x", impl.ErrText, 0)
	holdLensStuck(t, "\t\nlens x", impl.ErrText, 0)
	holdLensStuck(t, "lens x # \r\n\r\nsurf", impl.ErrText, 11)
}

func TestBrokenBytesInALens(t *testing.T) {
	for _, broken := range brokenBytes() {
		for _, ahead := range []string{"", " ", "lens ", "lens x", "lens x\n", fullText, fullText + "#", "lens x # \u03bb", "\u00a7 ", "\u03bb", "lens \u03bb\u03a7", "?", "? ?\n", "lens x y\n", "lens x\nlens x\n", "#\ufffd", "\U0001d6c0"} {
			for _, behind := range []string{"", " ", "\n", "x", "\u03bb", "\n\nlens x\n", "\xff", "\n\xff"} {
				holdLensStuck(t, ahead+broken+behind, impl.ErrText, len(ahead))
			}
		}
	}
	// Within a remark, behind faults of other kinds, and a lens's own fault behind it.
	holdLensStuck(t, "lens x # \xce\nsurf r 1 t 2 m air", impl.ErrText, 9)
	holdLensStuck(t, "lens x\n# \u03bb\xbb", impl.ErrText, 11)
	holdLensStuck(t, "?\n#\xff", impl.ErrText, 3)
	holdLensStuck(t, "surf\n\n\n\u00a7\xc2", impl.ErrText, 9)
	holdLensStuck(t, "lens x\n\xc2", impl.ErrText, 7)
	holdLensStuck(t, "lens x\n\xc2\n\xa7", impl.ErrText, 7)
	// Too long comes ahead of it.
	holdLensStuck(t, "\xff"+strings.Repeat(" ", 4000), impl.ErrMany, 0)
	holdLensStuck(t, strings.Repeat(" ", 3999)+"\xff", impl.ErrText, 3999)
	holdLensStuck(t, strings.Repeat(" ", 3999)+"\xce\xbb", impl.ErrMany, 0)
}

// Texts of all bytes that make and break runes, held against the ranges of the standard.
func TestBytesOfALens(t *testing.T) {
	for _, text := range textsOf([]string{"\x7f", "\x80", "\x9f", "\xa0", "\xbf", "\xc1", "\xc2", "\xdf", "\xe0", "\xe1", "\xed", "\xef", "\xf0", "\xf3", "\xf4", "\xf5"}, 5000) {
		want := readLensSlowly(text)
		got := impl.ParseLens(text)
		if got.Code != want.Code || got.At != want.At {
			t.Errorf("ParseLens(%q) = %s, want %s", text, brief(got), brief(want))
		}
	}
	for a := range 256 {
		for b := range 256 {
			text := "#\xf1" + string([]byte{byte(a), byte(b)}) + "\x80"
			holdLens(t, text, readLensSlowly(text))
			text = string([]byte{byte(a), byte(b)})
			holdLens(t, text, readLensSlowly(text))
		}
	}
}

func TestLensTextsOfTheGreatestLength(t *testing.T) {
	one := lensOf(nil, plainSurf(toldVal(1, 1), toldVal(2, 1), "air"))
	text := "lens x\nsurf r 1 t 2 m air"
	for _, fill := range []string{" ", "\n", "#", "\u00a7"} {
		full := text + strings.Repeat(fill, (4000-len(text))/len(fill))
		full += strings.Repeat(" ", 4000-len(full))
		holdLensRead(t, full, one)
		holdLensStuck(t, full+" ", impl.ErrMany, 0)
		holdLensStuck(t, full+"\xff", impl.ErrMany, 0)
	}
	holdLensStuck(t, "lens "+strings.Repeat("x", 3995), impl.ErrText, 5)
	holdLensStuck(t, "lens x\nmedium A "+strings.Repeat("1", 3984), impl.ErrText, 16)
	holdLensStuck(t, "lens x\n"+strings.Repeat(" ", 3992)+"?", impl.ErrText, 3999)
	holdLensStuck(t, "lens x\nmedium"+strings.Repeat(" ", 3987), impl.ErrText, 4000)
}

// Lenses that read well but have a fault: the code alone, At 0, whatever stands where.
func TestLensTextsWithAFault(t *testing.T) {
	for _, text := range []string{
		"lens x", "lens x\nmedium air 1\nsurf r 1 t 1 m air", "lens x\nmedium A 2\nmedium A 2\nsurf r 1 t 1 m air", "lens x\nmedium A 0\nsurf r 1 t 1 m air", "lens x\nmedium A -1\nsurf r 1 t 1 m air",
		"lens x\nsurf r solve t 1 m air", "lens x\nsurf r 1 t solve m air\nsurf r 1 t 1 m air", "lens x\nsurf r pick 0 1 t 1 m air", "lens x\nsurf r 1 t pick 0 1 m air", "lens x\nsurf r 1 t 1 m A", "lens x\nsurf r 1 t 1 m air semi -1",
		"lens x\nsurf r 1 t 1 m air stop\nsurf r 1 t 1 m air stop", "lens x\nsurf r 1 t 1 m air\nzoom 1 1", "lens x\nsurf r 1 t 1 m air\nzoom 9999 1", "lens x\nsurf r 1 t solve m air\nzoom 0 1", "lens x\nsurf r 1 t 1 m air\nzoom 0 1\nzoom 0 1",
		"lens x\nsurf r 1 t 1 m air\nsurf r 1 t 1 m air\nzoom 0 1\nzoom 1 1 2", "lens x\nsurf r 1 t 1 m air\nzoom 0" + strings.Repeat(" 1", 17), "lens x\nsurf r 1 t 1 m air\nzoom 0" + strings.Repeat(" 1", 1900),
	} {
		holdLensStuck(t, text, impl.ErrForm, 0)
		holdLensStuck(t, "\n# \u03bb\n"+text+"\n\n# x", impl.ErrForm, 0)
		// A word of a later line that is not due comes ahead of the fault.
		holdLensStuck(t, text+"\n?", impl.ErrText, len(text)+1)
	}
	surf, zoom := "surf r 1 t 1 m air\n", "zoom 0 1\n"
	holdLensRead(t, "lens x\n"+strings.Repeat(surf, 40), lensOf(nil, slices.Repeat([]impl.Surf{plainSurf(toldVal(1, 1), toldVal(1, 1), "air")}, 40)...))
	holdLensStuck(t, "lens x\n"+strings.Repeat(surf, 41), impl.ErrMany, 0)
	holdLensStuck(t, "lens x\n"+strings.Repeat(surf, 200), impl.ErrMany, 0)
	holdLensStuck(t, "lens x\n"+surf+strings.Repeat(zoom, 40), impl.ErrForm, 0)
	holdLensStuck(t, "lens x\n"+surf+strings.Repeat(zoom, 41), impl.ErrMany, 0)
	holdLensStuck(t, "lens x\n"+strings.Repeat("medium A 1\n", 20)+surf, impl.ErrForm, 0)
	holdLensStuck(t, "lens x\n"+strings.Repeat("medium A 1\n", 21), impl.ErrMany, 0)
	holdLensStuck(t, "lens x\n"+strings.Repeat(surf, 41)+"surf", impl.ErrText, 7+41*len(surf)+4)
	sixteen := lensOf(nil, plainSurf(toldVal(1, 1), toldVal(1, 1), "air"))
	sixteen.Zooms = []impl.Zoom{{Surf: 0, Gaps: slices.Repeat(wholes(7), 16)}}
	holdLensRead(t, "lens x\n"+surf+"zoom 0"+strings.Repeat(" 7", 16), sixteen)
}

// The text of the stage's own test, and that of a missing word.
func TestParseLensOfTheStage(t *testing.T) {
	holdLensStuck(t, "lens x\nsurf r 1 t", impl.ErrText, 17)
	l := impl.Lens{Name: "\u03bbdoublet", Media: []impl.Medium{medium("K7", 3, 2)}, Surfs: []impl.Surf{plainSurf(toldVal(50, 1), toldVal(2, 1), "K7"), plainSurf(pickVal(0, -1, 1), solveVal(), "air")}, Zooms: []impl.Zoom{{Surf: 0, Gaps: wholes(1, 2)}}}
	l.Surfs[0].Semi, l.Surfs[0].Stop = frac(10, 1), true
	holdLensRead(t, "lens \u03bbdoublet\nmedium K7 3/2\nsurf r 50 t 2 m K7 semi 10 stop # first\nsurf r pick 0 -1 t solve m air\nzoom 0 1 2\n", l)
}

// Texts of right and wrong words, most of them near to what is due, held against the slow reader.
func TestParseLensOfDrawnTexts(t *testing.T) {
	d := fracsFrom(86)
	pick := func(list ...string) string { return list[d.below(int64(len(list)))] }
	seen := map[int64]int{}
	for range 12000 {
		lines := strings.SplitAfter(impl.FormatLens(drawnLens(d)), "\n")
		for d.below(3) == 0 {
			i := d.below(int64(len(lines)))
			words := strings.SplitAfter(lines[i], " ")
			words[d.below(int64(len(words)))] = pick("", "lens ", "surf ", "x ", "7 ", "-1/2 ", "? ", "# ", "\u00a7", "pick ", "0 ", "solve ", "semi ", "stop ", "\n", "m ", "\xce", "\u03bb ", "10000 ", "zoom ")
			lines[i] = strings.Join(words, "")
		}
		for d.below(4) == 0 {
			i, j := d.below(int64(len(lines))), d.below(int64(len(lines)))
			lines[i], lines[j] = lines[j], lines[i]
		}
		text := pick("", "", "\n", "# \u03bb\n") + strings.Join(lines, pick("", "", "\n", "\u00a7\u03a7\n", "  "))
		want := readLensSlowly(text)
		seen[want.Code]++
		holdLens(t, text, want)
	}
	if seen[impl.OK] < 1000 || seen[impl.ErrForm] < 100 || seen[impl.ErrText] < 1000 {
		t.Error(seen)
	}
}

// Every text of up to so many of these pieces behind a text's beginning, held against the slow reader.
func TestParseLensOfAllShortTexts(t *testing.T) {
	pieces := []string{" ", "\n", "1", "#", "\u00a7", "\u03bb", "surf r 1 t 1 m air"}
	for _, text := range textsOf(pieces, 5000) {
		for _, ahead := range []string{"", "lens x\nsurf r 1 t 1 m A", "lens x\nsurf r 1 t 1 m air\nzoom 0 "} {
			holdLens(t, ahead+text, readLensSlowly(ahead+text))
		}
	}
}

// Remarks and blank lines change nothing, wherever they stand; nor do more blanks.
func TestRemarksAndBlankLinesChangeNothing(t *testing.T) {
	d := fracsFrom(87)
	pick := func(list ...string) string { return list[d.below(int64(len(list)))] }
	for range 2000 {
		l := drawnLens(d)
		text := ""
		for _, line := range strings.SplitAfter(impl.FormatLens(l), "\n") {
			told := strings.TrimSuffix(line, "\n")
			told = pick("", " ", "   ") + strings.ReplaceAll(told, " ", pick(" ", "  ", "    ")) + pick("", " ", "# x", " \u00a7 \u03bb", "#\u00a7#", "\u00a7surf r")
			text += pick("", "", "\n", "  \n", "#\n", "  # surf r 1\n", "\u00a7\u03a7\U0001d6c0\n") + told + "\n"
		}
		if len(text) <= impl.MaxText {
			holdLensRead(t, text, l)
		}
	}
}

func holdFormatLens(t *testing.T, what string, l impl.Lens, want string) {
	t.Helper()
	for range 2 {
		got := ""
		if !lensLeftAlone(l, func() { got = impl.FormatLens(l) }) {
			t.Errorf("%s: FormatLens changes %s", what, brief(l))
		}
		if got != want {
			t.Errorf("%s: FormatLens(%s) = %q, want %q", what, brief(l), got, want)
		}
	}
}

func TestFormatLens(t *testing.T) {
	holdFormatLens(t, "full", fullLens(), fullText)
	holdFormatLens(t, "one", lensOf(nil, plainSurf(toldVal(1, 1), toldVal(-2, 1), "air")), "lens x\nsurf r 1 t -2 m air\n")
	holdFormatLens(t, "one, nil or empty", impl.Lens{Name: "x", Media: []impl.Medium{}, Surfs: likeSurfs(1), Zooms: []impl.Zoom{}}, "lens x\nsurf r 5 t 1 m air\n")
	for _, f := range rightFracs() {
		word := strconv.FormatInt(f.Num, 10)
		if f.Den != 1 {
			word += "/" + strconv.FormatInt(f.Den, 10)
		}
		l := lensOf(nil, plainSurf(valOf(f), valOf(f), "air"), plainSurf(pickVal(0, f.Num, f.Den), pickVal(0, f.Num, f.Den), "air"))
		l.Zooms = []impl.Zoom{{Surf: 0, Gaps: []impl.Frac{f, f}}}
		holdFormatLens(t, "fractions", l, "lens x\nsurf r "+word+" t "+word+" m air\nsurf r pick 0 "+word+" t pick 0 "+word+" m air\nzoom 0 "+word+" "+word+"\n")
		if f.Num == 0 {
			continue
		}
		one := lensOf(nil, plainSurf(toldVal(1, 1), solveVal(), "air"))
		one.Surfs[0].Conic = f
		holdFormatLens(t, "conic", one, "lens x\nsurf r 1 t solve m air conic "+word+"\n")
		if f.Num > 0 {
			one.Media, one.Surfs[0].Semi, one.Surfs[0].Stop = []impl.Medium{{Name: "A", Index: f}}, f, true
			holdFormatLens(t, "all", one, "lens x\nmedium A "+word+"\nsurf r 1 t solve m air semi "+word+" conic "+word+" stop\n")
			one.Surfs[0].Conic = frac(0, 1)
			holdFormatLens(t, "semi", one, "lens x\nmedium A "+word+"\nsurf r 1 t solve m air semi "+word+" stop\n")
		}
	}
	for _, name := range rightLensNames() {
		holdFormatLens(t, name, changedLens(lensOf(nil, likeSurfs(1)...), func(l *impl.Lens) { l.Name = name }), "lens "+name+"\nsurf r 5 t 1 m air\n")
	}
}

func TestLensesThatAreNotTold(t *testing.T) {
	holdFormatLens(t, "the zero value", impl.Lens{}, "")
	for _, c := range slices.Concat(wrongChanges(), tooManyChanges()) {
		holdFormatLens(t, c.what, changedLens(fullLens(), c.change), "")
	}
	// These have no fault, but what is not told would be read as 0.
	for _, c := range []lensCase{
		{"a number's From", func(l *impl.Lens) { l.Surfs[0].Radius.From = 1 }},
		{"a number's From below 0", func(l *impl.Lens) { l.Surfs[3].Gap.From = math.MinInt64 }},
		{"a last number's From", func(l *impl.Lens) { l.Surfs[4].Gap = impl.Val{Kind: impl.ValNumber, Num: frac(1, 1), From: 3} }},
		{"a solved gap's From", func(l *impl.Lens) { l.Surfs[4].Gap.From = 1 }},
		{"a solved gap's Num", func(l *impl.Lens) { l.Surfs[4].Gap.Num = frac(1, 1) }},
		{"a solved gap's zero Num", func(l *impl.Lens) { l.Surfs[4].Gap.Num = impl.Frac{} }},
		{"a solved gap's wrong Num", func(l *impl.Lens) { l.Surfs[4].Gap.Num = frac(2, 4) }},
	} {
		l := changedLens(fullLens(), c.change)
		holdLensFault(t, c.what, l, impl.OK)
		holdFormatLens(t, c.what, l, "")
	}
	// A name that is none can't make another lens's text.
	for _, name := range []string{"x\nsurf r 1 t 1 m air", "x # y", "x\u00a7", "x y"} {
		holdFormatLens(t, name, changedLens(lensOf(nil, likeSurfs(1)...), func(l *impl.Lens) { l.Name = name }), "")
	}
	holdFormatLens(t, "a huge one", impl.Lens{Name: strings.Repeat("x", 1000000), Surfs: make([]impl.Surf, 1000000)}, "")
}

// A lens whose text has MaxText bytes is told, one whose text has one more is not.
func TestLensesOfTheGreatestText(t *testing.T) {
	holdFormatLens(t, "the greatest lens", greatestLens(), textOfNumbers(greatestLens()))
	l := lensOf(nil, likeSurfs(40)...)
	text := "lens x\n" + strings.Repeat("surf r 5 t 1 m air\n", 40)
	l.Zooms = manyZooms(40, 16)
	zooms := ""
	for i := range 40 {
		zooms += "zoom " + strconv.Itoa(i) + strings.Repeat(" 3", 16) + "\n"
	}
	text += zooms
	holdFormatLens(t, "many zooms", l, text)
	// Each nought more behind a gap is a byte more.
	for i := range 16 * 40 {
		gap := &l.Zooms[i/16].Gaps[i%16]
		for gap.Num < impl.MaxNum/10 && len(text) < impl.MaxText {
			gap.Num *= 10
			text += "0"
		}
	}
	told := impl.FormatLens(l)
	if len(text) != impl.MaxText || len(told) != impl.MaxText {
		t.Fatalf("the text has %d bytes, want %d", len(told), len(text))
	}
	holdLensRead(t, told, l)
	l.Zooms[39].Gaps[15].Num *= 10
	holdLensFault(t, "one byte more", l, impl.OK)
	holdFormatLens(t, "one byte more", l, "")
	holdLensRead(t, strings.TrimSuffix(told, "3\n")+"30", l)
}

// textOfNumbers is the text of a lens whose values are numbers alone, or nothing if it is too long.
func textOfNumbers(l impl.Lens) string {
	text := "lens " + l.Name + "\n"
	for _, m := range l.Media {
		text += "medium " + m.Name + " " + impl.FormatFrac(m.Index) + "\n"
	}
	for _, s := range l.Surfs {
		text += "surf r " + impl.FormatFrac(s.Radius.Num) + " t " + impl.FormatFrac(s.Gap.Num) + " m " + s.Medium + "\n"
	}
	for _, z := range l.Zooms {
		text += "zoom " + strconv.FormatInt(z.Surf, 10)
		for _, f := range z.Gaps {
			text += " " + impl.FormatFrac(f)
		}
		text += "\n"
	}
	if len(text) > 4000 {
		return ""
	}
	return text
}

func TestLensesAreReadBack(t *testing.T) {
	d := fracsFrom(88)
	for range 4000 {
		l := copyOfLens(drawnLens(d))
		text := impl.FormatLens(l)
		if text == "" {
			t.Fatalf("FormatLens(%v) is empty", l)
		}
		holdLensRead(t, text, l)
		holdFormatLens(t, "again", impl.ParseLens(text).Lens, text)
		// Spoilt, it is told if, and only if, it is read back as it stands.
		spoilLens(d, &l)
		text = impl.FormatLens(l)
		told := lensFaultByWords(l) == impl.OK && !slices.ContainsFunc(l.Surfs, hasUntold)
		if told != (text != "") {
			t.Errorf("FormatLens(%v) = %q", l, text)
		}
		if text != "" {
			holdLensRead(t, text, l)
		}
	}
	for _, c := range rightChanges() {
		l := changedLens(fullLens(), c.change)
		text := impl.FormatLens(l)
		if !slices.ContainsFunc(l.Surfs, hasUntold) {
			holdLensRead(t, text, l)
		} else {
			holdFormatLens(t, c.what, l, "")
		}
	}
}

// hasUntold says whether a surface has something that no text tells.
func hasUntold(s impl.Surf) bool {
	for _, v := range []impl.Val{s.Radius, s.Gap} {
		if v.Kind != impl.ValPick && v.From != 0 || v.Kind == impl.ValSolve && v.Num != frac(0, 1) {
			return true
		}
	}
	return false
}
