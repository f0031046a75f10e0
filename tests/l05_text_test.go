package tests

import (
	"math"
	"regexp"
	"strconv"
	"strings"
	"testing"

	"loop.example/g00049/impl"
)

const threeLine = "glass K7 three 300 2000 1500000000 5000000 0"
const sixLine = "glass N-BK7 six 310 2500 1039612120 6000699 231792344 20017914 1010469450 103560653000"

var glassWord = regexp.MustCompile(`[^ ]+`)
var glassName = regexp.MustCompile(`^[A-Za-z][-A-Za-z0-9]{0,19}$`)
var glassNumber = regexp.MustCompile(`^-?[0-9]{1,13}$`)

// dueInGlass says whether the word may stand at that place of a line with those words.
func dueInGlass(words []string, place int) bool {
	switch place {
	case 0:
		return words[0] == "glass"
	case 1:
		return glassName.MatchString(words[1])
	case 2:
		return words[2] == "six" || words[2] == "three"
	}
	return place < lengthOfLine(words) && glassNumber.MatchString(words[place])
}

// lengthOfLine is how many words are due in a line with those.
func lengthOfLine(words []string) int {
	if len(words) > 2 && words[2] == "three" {
		return 8
	}
	return 11
}

func glassOfWords(words []string) impl.Glass {
	list := []int64{}
	for _, word := range words[3:] {
		number, _ := strconv.ParseInt(word, 10, 64)
		list = append(list, number)
	}
	kind := map[string]int64{"six": impl.GlassSix, "three": impl.GlassThree}[words[2]]
	return impl.Glass{Name: words[1], Kind: kind, Low: list[0], High: list[1], K: list[2:]}
}

// readGlassesSlowly is what the document asks ReadGlasses for, by regular expressions.
func readGlassesSlowly(text string) impl.GlassText {
	if len(text) > impl.MaxText {
		return impl.GlassText{Code: impl.ErrMany}
	}
	list, seen, from := []impl.Glass{}, map[string]int{}, 0
	for _, line := range strings.Split(text, "\n") {
		words, places := glassWord.FindAllString(line, -1), glassWord.FindAllStringIndex(line, -1)
		for i := range words {
			if !dueInGlass(words, i) {
				return impl.GlassText{Code: impl.ErrText, At: int64(from + places[i][0])}
			}
		}
		if len(words) > 0 {
			if len(words) < lengthOfLine(words) {
				return impl.GlassText{Code: impl.ErrText, At: int64(from + len(line))}
			}
			g := glassOfWords(words)
			seen[g.Name]++
			at := int64(from + places[0][0])
			switch code := impl.GlassFault(g); {
			case code != impl.OK:
				return impl.GlassText{Code: code, At: at}
			case seen[g.Name] > 1:
				return impl.GlassText{Code: impl.ErrForm, At: at}
			case len(list) == impl.MaxGlasses:
				return impl.GlassText{Code: impl.ErrMany, At: at}
			}
			list = append(list, g)
		}
		from += len(line) + 1
	}
	return impl.GlassText{List: list}
}

// holdRead asks for an answer, and for the same one again in memory of its own.
func holdRead(t *testing.T, text string, want impl.GlassText) {
	t.Helper()
	got, again := impl.ReadGlasses(text), impl.ReadGlasses(text)
	for _, answer := range []impl.GlassText{got, again} {
		if answer.Code != want.Code || answer.At != want.At || !sameGlasses(answer.List, want.List) {
			t.Errorf("ReadGlasses(%.300q) = %v, want %v", text, answer, want)
		}
	}
	numbers, others := [][]int64{}, [][]int64{}
	for i := range got.List {
		numbers = append(numbers, got.List[i].K)
	}
	for i := range again.List {
		others = append(others, again.List[i].K)
	}
	apart(t, numbers, others)
	apart(t, [][]impl.Glass{got.List}, [][]impl.Glass{again.List})
}

func holdStuck(t *testing.T, text string, code int64, at int) {
	t.Helper()
	holdRead(t, text, impl.GlassText{Code: code, At: int64(at)})
}

func holdGlasses(t *testing.T, text string, list ...impl.Glass) {
	t.Helper()
	holdRead(t, text, impl.GlassText{List: list})
}

func TestTextsWithoutGlasses(t *testing.T) {
	for _, text := range []string{"", " ", "\n", "\n\n\n", "    ", "  \n \n   ", strings.Repeat("\n", impl.MaxText), strings.Repeat(" ", impl.MaxText)} {
		holdGlasses(t, text)
	}
	holdStuck(t, strings.Repeat("\n", impl.MaxText+1), impl.ErrMany, 0)
	holdStuck(t, strings.Repeat(" ", impl.MaxText+1), impl.ErrMany, 0)
	holdStuck(t, strings.Repeat("x", impl.MaxText+1), impl.ErrMany, 0)
	holdStuck(t, strings.Repeat("x", impl.MaxText), impl.ErrText, 0)
	holdStuck(t, strings.Repeat("\xff", 1000000), impl.ErrMany, 0)
}

func TestTextsOfGlasses(t *testing.T) {
	three, six := threeGlass(), sixGlass()
	holdGlasses(t, threeLine, three)
	holdGlasses(t, threeLine+"\n", three)
	holdGlasses(t, threeLine+"\n\n", three)
	holdGlasses(t, "\n \n"+threeLine, three)
	holdGlasses(t, "   "+strings.ReplaceAll(threeLine, " ", "   ")+"  ", three)
	holdGlasses(t, sixLine, six)
	holdGlasses(t, sixLine+"\n"+threeLine, six, three)
	holdGlasses(t, threeLine+"\n"+sixLine+"\n", three, six)
	holdGlasses(t, "\n"+threeLine+" \n   \n\n  "+sixLine+"\n ", three, six)
}

func TestNamesInTexts(t *testing.T) {
	for _, name := range rightNames() {
		holdGlasses(t, "glass "+name+" three 300 2000 1500000000 5000000 0", changedGlass(threeGlass(), func(g *impl.Glass) { g.Name = name }))
	}
	for _, name := range wrongNames() {
		if !strings.ContainsAny(name, " \n") && len(name) < impl.MaxText {
			holdStuck(t, "glass "+name+" three 300 2000 1500000000 5000000 0", impl.ErrText, 6)
			holdStuck(t, "  glass   "+name, impl.ErrText, 10)
		}
	}
}

func TestNumbersInTexts(t *testing.T) {
	for word, number := range map[string]int64{
		"0": 0, "-0": 0, "1": 1, "-1": -1, "007": 7, "-007": -7, "0000000000000": 0, "-0000000000009": -9, "1000000000000": tenToTwelve, "-1000000000000": -tenToTwelve,
		"999999999999": tenToTwelve - 1, "0999999999999": tenToTwelve - 1,
	} {
		for place := range 3 {
			words := strings.Fields(threeLine)
			words[5+place] = word
			holdGlasses(t, strings.Join(words, " "), changedGlass(threeGlass(), func(g *impl.Glass) { g.K[place] = number }))
		}
	}
	holdGlasses(t, "glass K7 three 0000000000300 002000 1500000000 5000000 0", threeGlass())
	for _, word := range []string{"1000000000001", "-1000000000001", "9999999999999", "-9999999999999"} {
		holdStuck(t, " glass K7 three 300 2000 1500000000 "+word+" 0", impl.ErrRange, 1)
	}
}

// wrongNumbers are words that are no number.
func wrongNumbers() []string {
	return []string{
		"-", "--1", "1-", "1-1", "+1", "x", "1x", "x1", "-x", "1.0", ".5", "1e3", "0x1", "1_0", "1,0", "1/2", "/", ":", "1:", "1/", "\t", "1\t", "1\r", "\r", "1\x00", "\x00", "1\xff", "\u0663", "1\u00a0", "\u22121", "\uff11",
		"00000000000000", "-00000000000000", "10000000000000", "-10000000000000", strings.Repeat("9", 19), strings.Repeat("9", 20), "18446744073709551617", strings.Repeat("1", 500), "-" + strings.Repeat("0", 500), "six", "glass", "K7",
	}
}

// placesOf are where the words of a line begin.
func placesOf(line string) []int {
	places := []int{}
	for _, pair := range glassWord.FindAllStringIndex(line, -1) {
		places = append(places, pair[0])
	}
	return places
}

// Each line stands alone, ahead of and behind others, with and without a byte 10 behind it.
func holdStuckAnywhere(t *testing.T, line string, code int64, at int) {
	t.Helper()
	for _, ahead := range []string{"", "\n", "  \n\n", "glass First three 1 2 3 4 5\n", "glass First three 1 2 3 4 5  \n   \n"} {
		for _, behind := range []string{"", "\n", "\n\n", "\nglass", "\n" + sixLine, "\n!\n"} {
			holdStuck(t, ahead+line+behind, code, len(ahead)+at)
		}
	}
}

func TestWordsThatAreNotDue(t *testing.T) {
	for _, line := range []string{threeLine, sixLine, "  " + strings.ReplaceAll(threeLine, " ", "  ") + " "} {
		places, words := placesOf(line), strings.Fields(line)
		for i, at := range places {
			wrongs := []string{"?", "\t", "\xff", "\u00e9", "-", "7-", words[i] + "\x00", "\r" + words[i], words[i] + "!"}
			if i >= 3 {
				wrongs = append(wrongs, wrongNumbers()...)
			}
			if i == 0 || i == 2 {
				wrongs = append(wrongs, "Glass", "GLASS", "glas", "glasss", "Six", "SIX", "sixx", "si", "Three", "threes", "thre", "1", "2", "0", "K7", words[i]+words[i])
			}
			for _, wrong := range wrongs {
				text := line[:at] + wrong + line[at+len(words[i]):]
				holdStuckAnywhere(t, text, impl.ErrText, at)
				// What stands behind the wrong word is not looked at.
				holdStuckAnywhere(t, line[:at]+wrong, impl.ErrText, at)
				holdStuckAnywhere(t, line[:at]+wrong+" ? ?", impl.ErrText, at)
			}
		}
	}
	holdStuckAnywhere(t, "six", impl.ErrText, 0)
	holdStuckAnywhere(t, "glass K7 glass", impl.ErrText, 9)
	holdStuckAnywhere(t, "glass K7 \u0073ix\u0301", impl.ErrText, 9)
}

func TestWordsThatAreMissing(t *testing.T) {
	for _, line := range []string{threeLine, sixLine, "  " + strings.ReplaceAll(sixLine, " ", "   ")} {
		places := placesOf(line)
		for _, at := range places[1:] {
			cut := strings.TrimRight(line[:at], " ")
			for _, blanks := range []string{"", " ", "    "} {
				holdStuckAnywhere(t, cut+blanks, impl.ErrText, len(cut+blanks))
			}
		}
	}
	// A word that is left out makes room for the next, which may be due there or not.
	holdStuckAnywhere(t, "K7 three 300 2000 1 2 3", impl.ErrText, 0)
	holdStuckAnywhere(t, "glass three 300 2000 1 2 3", impl.ErrText, 12)
	holdStuckAnywhere(t, "glass K7 300 2000 1 2 3", impl.ErrText, 9)
	holdStuckAnywhere(t, "glass K7 three 300 2000 1 2", impl.ErrText, 27)
	holdStuckAnywhere(t, "glass K7 six 300 2000 1 2 3", impl.ErrText, 27)
	// A line ends where it ends: the next one's words are not its.
	holdStuck(t, "glass K7 three 300\n2000 1 2 3", impl.ErrText, 18)
	holdStuck(t, "glass\nK7 three 300 2000 1 2 3", impl.ErrText, 5)
}

func TestOneWordTooMany(t *testing.T) {
	for _, line := range []string{threeLine, sixLine, " " + sixLine} {
		for _, more := range []string{"0", "x", "glass", "-", "0 0", "\t", "\r", "9999999999999", "99999999999999"} {
			for _, blanks := range []string{" ", "    "} {
				holdStuckAnywhere(t, line+blanks+more, impl.ErrText, len(line+blanks))
				holdStuckAnywhere(t, line+blanks+more+" ", impl.ErrText, len(line+blanks))
			}
		}
	}
	holdStuckAnywhere(t, "glass K7 three 300 2000 1 2 3 4 5 6", impl.ErrText, 30)
	holdStuckAnywhere(t, "glass K7 three 0 0 1 2 3 glass K8 three 300 2000 1 2 3", impl.ErrText, 25)
}

func TestFaultsInTexts(t *testing.T) {
	for _, line := range []string{
		"glass K7 three 0 2000 1 2 3", "glass K7 three -300 2000 1 2 3", "glass K7 three 300 100001 1 2 3", "glass K7 three 2001 2000 1 2 3", "glass K7 three 300 2000 1000000000001 2 3",
		"glass K7 three 300 2000 1 2 -1000000000001", "glass K7 six 300 2000 1 2 3 4 5 9999999999999", "glass K7 six 0 9999999999999 1 2 3 4 5 6", "glass K7 three -0 1 1 2 3",
	} {
		holdStuckAnywhere(t, line, impl.ErrRange, 0)
		holdStuckAnywhere(t, "   "+line+"  ", impl.ErrRange, 3)
		// A word that is not due comes ahead of the fault, one of a later line behind it.
		holdStuckAnywhere(t, "   "+line+" x", impl.ErrText, 4+len(line))
		holdStuck(t, threeLine+"\n "+line+"\n?", impl.ErrRange, len(threeLine)+2)
		holdStuck(t, "?\n"+line, impl.ErrText, 0)
	}
}

func TestNamesThatStoodThereAhead(t *testing.T) {
	holdStuck(t, threeLine+"\n"+threeLine, impl.ErrForm, len(threeLine)+1)
	holdStuck(t, threeLine+"\n"+sixLine+"\n  glass K7 six 1 2 3 4 5 6 7 8", impl.ErrForm, len(threeLine+sixLine)+4)
	// Of an unlike case or length it is another one.
	if got := impl.ReadGlasses("glass A three 1 1 0 0 0\nglass a three 1 1 0 0 0\nglass AA three 1 1 0 0 0\nglass A- three 1 1 0 0 0"); got.Code != impl.OK || len(got.List) != 4 {
		t.Error(got)
	}
	// Its own fault comes ahead of its name, a word that is not due ahead of both.
	holdStuck(t, threeLine+"\nglass K7 three 0 2000 1 2 3", impl.ErrRange, len(threeLine)+1)
	holdStuck(t, threeLine+"\nglass K7 three 0 2000 1 2 x", impl.ErrText, len(threeLine)+27)
	holdStuck(t, threeLine+"\nglass K7 three 0 2000 1 2", impl.ErrText, len(threeLine)+26)
	holdStuck(t, threeLine+"\nglass K7 three 1 2 3 4 5\nglass ?", impl.ErrForm, len(threeLine)+1)
}

// manyLines are so many short lines, no two of the same name.
func manyLines(count int) string {
	text := ""
	for i := range count {
		text += "glass A" + strconv.Itoa(i) + " three 1 1 0 0 0\n"
	}
	return text
}

func TestOneGlassTooMany(t *testing.T) {
	most := manyLines(impl.MaxGlasses)
	if got := impl.ReadGlasses(most); got.Code != impl.OK || got.At != 0 || len(got.List) != impl.MaxGlasses || got.List[99].Name != "A99" {
		t.Error(got)
	}
	holdStuck(t, manyLines(impl.MaxGlasses+1), impl.ErrMany, len(most))
	holdStuck(t, manyLines(impl.MaxGlasses+2), impl.ErrMany, len(most))
	holdStuck(t, most+"\n  "+threeLine, impl.ErrMany, len(most)+3)
	// Its fault and its name come ahead of there being too many.
	holdStuck(t, most+"glass B three 0 1 0 0 0", impl.ErrRange, len(most))
	holdStuck(t, most+"glass A0 three 1 1 0 0 0", impl.ErrForm, len(most))
	holdStuck(t, most+"glass B three 1 1 0 0", impl.ErrText, len(most)+21)
	if got := impl.ReadGlasses(most + "\n \n"); got.Code != impl.OK || len(got.List) != impl.MaxGlasses {
		t.Error(got)
	}
}

// wideGlasses are told in a text of MaxText bytes, a hundred a line.
func wideGlasses() []impl.Glass {
	list := []impl.Glass{}
	for i := range int64(40) {
		name := "N" + strconv.FormatInt(100000000000000000+i, 10)
		list = append(list, impl.Glass{Name: name, Kind: impl.GlassSix, Low: 1, High: 1, K: []int64{1000000000 + i, -100000000, 3000000000, 4000000000, 5000000000, 6000000000}})
	}
	return list
}

func TestTextsOfTheGreatestLength(t *testing.T) {
	list := wideGlasses()
	text := impl.FormatGlasses(list)
	if len(text) != impl.MaxText {
		t.Fatalf("the text has %d bytes: %q", len(text), text)
	}
	holdGlasses(t, text, list...)
	holdStuck(t, text+" ", impl.ErrMany, 0)
	holdStuck(t, "\n"+text, impl.ErrMany, 0)
	// Without the last byte 10 there is room for another byte, which can't be told again.
	longer := changedGlass(list[39], func(g *impl.Glass) { g.Name += "x" })
	text = strings.Replace(text, list[39].Name, longer.Name, 1)
	list[39] = longer
	holdGlasses(t, strings.TrimSuffix(text, "\n"), list...)
	holdFormat(t, list, "")
}

func holdFormat(t *testing.T, list []impl.Glass, want string) {
	t.Helper()
	kept := copyOfGlasses(list)
	for range 2 {
		if got := impl.FormatGlasses(list); got != want {
			t.Errorf("FormatGlasses(%v) = %q, want %q", kept, got, want)
		}
	}
	if !sameGlasses(list, kept) {
		t.Errorf("FormatGlasses changed %v to %v", kept, list)
	}
}

func TestFormatGlasses(t *testing.T) {
	three, six := threeGlass(), sixGlass()
	holdFormat(t, nil, "")
	holdFormat(t, []impl.Glass{}, "")
	holdFormat(t, []impl.Glass{three}, threeLine+"\n")
	holdFormat(t, []impl.Glass{six}, sixLine+"\n")
	holdFormat(t, []impl.Glass{six, three}, sixLine+"\n"+threeLine+"\n")
	holdFormat(t, []impl.Glass{three, evenGlass(), six}, threeLine+"\nglass Even three 1 100000 1500000000 0 0\n"+sixLine+"\n")
	edges := impl.Glass{Name: "E-", Kind: impl.GlassSix, Low: impl.MaxNm, High: impl.MaxNm, K: []int64{tenToTwelve, -tenToTwelve, 0, -1, 1, -10}}
	holdFormat(t, []impl.Glass{edges}, "glass E- six 100000 100000 1000000000000 -1000000000000 0 -1 1 -10\n")
	holdFormat(t, impl.ReadGlasses(manyLines(impl.MaxGlasses)).List, manyLines(impl.MaxGlasses))
	below := changedGlass(three, func(g *impl.Glass) { g.Shift = math.Copysign(0, -1) })
	holdFormat(t, []impl.Glass{below}, threeLine+"\n")
}

func TestGlassesThatAreNotTold(t *testing.T) {
	wrongs := []impl.Glass{{}}
	for _, g := range wrongGlasses() {
		wrongs = append(wrongs, g)
	}
	for _, shift := range []float64{5e-324, -5e-324, 0.5, -0.5, 1, -1, 2, math.Inf(1), math.NaN()} {
		wrongs = append(wrongs, changedGlass(sixGlass(), func(g *impl.Glass) { g.Shift = shift }))
	}
	for _, name := range append(wrongNames(), "", "A B", "A\nglass B three 1 1 0 0 0", "K7 three 1 1 0 0 0\nglass B") {
		wrongs = append(wrongs, changedGlass(sixGlass(), func(g *impl.Glass) { g.Name = name }))
	}
	for _, kind := range []int64{math.MinInt64, -1, 0, 2, 3, math.MaxInt64} {
		wrongs = append(wrongs, changedGlass(sixGlass(), func(g *impl.Glass) { g.Kind = kind }))
	}
	for _, wrong := range wrongs {
		holdFormat(t, []impl.Glass{wrong}, "")
		holdFormat(t, []impl.Glass{wrong, threeGlass()}, "")
		holdFormat(t, []impl.Glass{threeGlass(), evenGlass(), wrong}, "")
	}
	holdFormat(t, []impl.Glass{threeGlass(), threeGlass()}, "")
	holdFormat(t, []impl.Glass{threeGlass(), sixGlass(), changedGlass(evenGlass(), func(g *impl.Glass) { g.Name = "K7" })}, "")
	most := impl.ReadGlasses(manyLines(impl.MaxGlasses)).List
	holdFormat(t, append(most, threeGlass()), "")
	holdFormat(t, append(wideGlasses(), threeGlass()), "")
	holdFormat(t, make([]impl.Glass, 100000), "")
}

func TestGlassesAreReadBack(t *testing.T) {
	draw := numbers{state: 54}
	for range 500 {
		list := []impl.Glass{}
		for i := range draw.below(20) {
			g := drawnGlass(&draw)
			g.Name, g.Shift = "G-"+strconv.FormatInt(i, 10), 0
			list = append(list, g)
		}
		text := impl.FormatGlasses(list)
		if len(list) > 0 && text == "" {
			t.Errorf("FormatGlasses(%v) is empty", list)
		}
		holdGlasses(t, text, list...)
		// Told again it is the same text, and the blanks do not matter.
		holdFormat(t, impl.ReadGlasses(strings.ReplaceAll(text, " ", "  ")).List, text)
	}
}

// Texts of right and wrong words, most of them near to what is due, held against the slow reader.
func TestReadGlassesOfDrawnTexts(t *testing.T) {
	draw := numbers{state: 55}
	pick := func(list ...string) string { return list[draw.below(int64(len(list)))] }
	seen := map[int64]int{}
	for range 60000 {
		text := ""
		for range draw.below(4) {
			words := []string{"glass", pick("A", "B", "C-1", "D4", "E", "f"), pick("six", "three"), pick("1", "300", "007"), pick("300", "2000", "100000")}
			for range map[string]int{"six": 6, "three": 3}[words[2]] {
				words = append(words, pick("0", "-1", "123456789", "-1000000000000", "1000000000000"))
			}
			for draw.below(4) == 0 {
				words[draw.below(int64(len(words)))] = pick("", "glass", "six", "three", "A", "7", "-", "0", "99999999999999", "9999999999999", "\xff", "\t", "-0", "1 2", "\n", "100001")
			}
			text += pick("", "", " ", "   ") + strings.Join(words, pick(" ", " ", "  ")) + pick("\n", "\n", " \n", "\n\n", "", " ")
		}
		want := readGlassesSlowly(text)
		seen[want.Code]++
		holdRead(t, text, want)
	}
	for _, code := range []int64{impl.OK, impl.ErrForm, impl.ErrRange, impl.ErrText} {
		if seen[code] < 500 {
			t.Errorf("only %d of the drawn texts have the code %d", seen[code], code)
		}
	}
}

// Every text of up to so many of these pieces behind a line's beginning, held against the slow reader.
func TestReadGlassesOfAllShortLines(t *testing.T) {
	pieces := []string{" ", "\n", "1", "-", "x", "glass A six 1 2 3 4 5 6 7 8"}
	for _, text := range textsOf(pieces, 9000) {
		for _, ahead := range []string{"", "glass B three 1 2 3 4 ", "glass B three 1 2 3 4 5"} {
			holdRead(t, ahead+text, readGlassesSlowly(ahead+text))
		}
	}
}
