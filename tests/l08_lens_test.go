package tests

import (
	"fmt"
	"math"
	"regexp"
	"slices"
	"strconv"
	"strings"
	"testing"
	"unicode/utf8"

	"loop.example/g00049/impl"
)

func toldVal(num int64, den int64) impl.Val {
	return impl.Val{Kind: impl.ValNumber, Num: frac(num, den)}
}

func pickVal(from int64, num int64, den int64) impl.Val {
	return impl.Val{Kind: impl.ValPick, Num: frac(num, den), From: from}
}

func solveVal() impl.Val {
	return impl.Val{Kind: impl.ValSolve, Num: frac(0, 1)}
}

// plainSurf is a surface with nothing but its radius, gap and medium.
func plainSurf(radius impl.Val, gap impl.Val, medium string) impl.Surf {
	return impl.Surf{Radius: radius, Gap: gap, Medium: medium, Semi: frac(0, 1), Conic: frac(0, 1)}
}

func medium(name string, num int64, den int64) impl.Medium {
	return impl.Medium{Name: name, Index: frac(num, den)}
}

func lensOf(media []impl.Medium, surfs ...impl.Surf) impl.Lens {
	return impl.Lens{Name: "x", Media: media, Surfs: surfs}
}

// wholes are whole numbers as fractions.
func wholes(list ...int64) []impl.Frac {
	fracs := []impl.Frac{}
	for _, n := range list {
		fracs = append(fracs, frac(n, 1))
	}
	return fracs
}

// fullLens has something of everything that a lens may have.
func fullLens() impl.Lens {
	l := impl.Lens{
		Name:  "\u03bb-zoom4",
		Media: []impl.Medium{medium("K7", 3, 2), medium("\u03a3\u03a7", 8, 5), medium("Q", 1, 1)},
		Surfs: []impl.Surf{
			plainSurf(toldVal(50, 1), toldVal(2, 1), "K7"),
			plainSurf(pickVal(0, -1, 1), toldVal(1, 2), "air"),
			plainSurf(toldVal(0, 1), pickVal(0, 1, 2), "\u03a3\u03a7"),
			plainSurf(pickVal(1, 3, 2), toldVal(-7, 3), "K7"),
			plainSurf(pickVal(3, 1, 3), solveVal(), "air"),
		},
		Zooms: []impl.Zoom{{Surf: 3, Gaps: wholes(1, 2, 3)}, {Surf: 0, Gaps: wholes(0, 15, -75)}},
	}
	l.Surfs[0].Semi, l.Surfs[0].Stop = frac(10, 1), true
	l.Surfs[2].Conic = frac(-1, 2)
	l.Surfs[4].Semi, l.Surfs[4].Conic = frac(1, 3), frac(2, 1)
	return l
}

// roomy is a copy with room behind its end, which is filled, so that whatever is written there is seen.
func roomy[T any](list []T, fill T) []T {
	longer := append(slices.Clone(list), fill, fill)
	return longer[:len(list)]
}

// copyOfLens shares no memory with the lens; all its lists have room behind their ends.
func copyOfLens(l impl.Lens) impl.Lens {
	l.Media = roomy(l.Media, medium("behind", 7, 5))
	l.Surfs = roomy(l.Surfs, plainSurf(toldVal(9, 1), toldVal(9, 1), "air"))
	l.Zooms = roomy(l.Zooms, impl.Zoom{Surf: 0, Gaps: wholes(9)})
	for i := range l.Zooms {
		l.Zooms[i].Gaps = roomy(l.Zooms[i].Gaps, frac(9, 7))
	}
	return l
}

func sameZoom(a impl.Zoom, b impl.Zoom) bool {
	return a.Surf == b.Surf && slices.Equal(a.Gaps, b.Gaps)
}

func sameLens(a impl.Lens, b impl.Lens) bool {
	return a.Name == b.Name && slices.Equal(a.Media, b.Media) && slices.Equal(a.Surfs, b.Surfs) && slices.EqualFunc(a.Zooms, b.Zooms, sameZoom)
}

// unrolled is the lens with all that stands behind the ends of its lists.
func unrolled(l impl.Lens) impl.Lens {
	l.Media, l.Surfs, l.Zooms = l.Media[:cap(l.Media)], l.Surfs[:cap(l.Surfs)], slices.Clone(l.Zooms[:cap(l.Zooms)])
	for i, z := range l.Zooms {
		l.Zooms[i].Gaps = z.Gaps[:cap(z.Gaps)]
	}
	return l
}

// lensLeftAlone says whether a call leaves the lens as it was, the memory behind the ends of its lists too.
func lensLeftAlone(l impl.Lens, call func()) bool {
	kept := copyOfLens(unrolled(l))
	call()
	return sameLens(unrolled(l), kept)
}

func changedLens(l impl.Lens, change func(*impl.Lens)) impl.Lens {
	l = copyOfLens(l)
	change(&l)
	return l
}

// brief tells anything, but not all of it.
func brief(what any) string {
	text := fmt.Sprint(what)
	return text[:min(len(text), 600)]
}

func holdLensFault(t *testing.T, what string, l impl.Lens, code int64) {
	t.Helper()
	for range 2 {
		got := int64(-1)
		if !lensLeftAlone(l, func() { got = impl.LensFault(l) }) {
			t.Errorf("%s: LensFault changes %s", what, brief(l))
		}
		if got != code {
			t.Errorf("%s: LensFault(%s) = %d, want %d", what, brief(l), got, code)
		}
	}
}

var lensNameForm = regexp.MustCompile(`^[A-Za-z\x{370}-\x{3FF}][-0-9A-Za-z\x{370}-\x{3FF}]*$`)

// isNameByWords is what the document asks LensName for, by a regular expression.
func isNameByWords(s string) bool {
	return len(s) >= 1 && len(s) <= 40 && utf8.ValidString(s) && lensNameForm.MatchString(s)
}

func holdName(t *testing.T, s string, want bool) {
	t.Helper()
	for range 2 {
		if got := impl.LensName(s); got != want {
			t.Errorf("LensName(%.100q) = %t", s, got)
		}
	}
}

func TestLensConstants(t *testing.T) {
	if impl.ValNumber != 1 || impl.ValPick != 2 || impl.ValSolve != 3 || impl.MaxSurfs != 40 || impl.MaxMedia != 20 || impl.MaxConfigs != 16 {
		t.Error("constants")
	}
}

// rightLensNames and wrongLensNames are what may and may not stand for a name; no wrong one has a blank, a byte 10, a remark or broken bytes.
func rightLensNames() []string {
	return []string{
		"A", "Z", "a", "z", "A0", "A9", "z-", "a--", "K7", "N-BK7", "air", "lens", "medium", "surf", "zoom", "r", "t", "m", "semi", "conic", "stop", "pick", "solve",
		"\u0370", "\u03ff", "\u0378", "\u03a9", "\u03bb1", "a\u0370", "a\u03ff", "\u03bb-\u03a7", "\u03a7\u03a7", "\u037e", "\u0387", "\u03f6", "Z\u03c09-",
		strings.Repeat("x", 40), strings.Repeat("\u03bb", 20), "a" + strings.Repeat("-", 39), "a" + strings.Repeat("7", 39), "ab" + strings.Repeat("\u03a9", 19),
	}
}

func wrongLensNames() []string {
	return []string{
		"0", "9", "7x", "0\u03bb", "-", "-a", "-\u03bb", "--", "@", "[", "`", "{", "/", ":", "a@", "a[", "a`", "a{", "a/", "a:", "a.", "a,", "a_", "a+", "a\t", "\t", "a\r", "a\x00", "\x00", "a\x7f",
		"\u036f", "\u0400", "a\u036f", "a\u0400", "\u03bb\u036f", "\u03bb\u0400", "\u036f\u03bb", "\u0400\u03bb", "\u00e9", "a\u00e9", "a\u0663", "\uff11", "a\uff21", "\u212a", "a\u00a0", "\u1f00", "a\u1fff", "\ufffd", "a\ufffd", "\U0001d6c0", "a\U0001d6c0", "\ufeffa", "\u0300", "a\u0301",
		strings.Repeat("x", 41), strings.Repeat("\u03bb", 21), strings.Repeat("\u03bb", 20) + "x", "a" + strings.Repeat("\u03bb", 20), strings.Repeat("x", 39) + "\u03bb", strings.Repeat("x", 39) + "_", "a" + strings.Repeat("-", 40), strings.Repeat("x", 300),
	}
}

// brokenBytes are no well-formed UTF-8: a rune cut off, overlong ones, surrogates, what is beyond U+10FFFF, bytes that begin or go on with nothing.
func brokenBytes() []string {
	return []string{
		"\xce", "\xcd", "\xcf", "\xe1", "\xe1\x80", "\xf0", "\xf0\x9d", "\xf0\x9d\x9b", "\x80", "\xbf", "\xbb", "\xa7", "\xc0\x80", "\xc1\x81", "\xc1\xbf", "\xe0\x8d\xb0", "\xe0\x8e\xa9", "\xe0\x9f\xbf", "\xf0\x80\x8d\xb0", "\xf0\x8f\xbf\xbf",
		"\xed\xa0\x80", "\xed\xad\xbf", "\xed\xbf\xbf", "\xf4\x90\x80\x80", "\xf5\x80\x80\x80", "\xf8\x88\x80\x80\x80", "\xfe", "\xff", "\xc2", "\xc2\xc2\xa7",
	}
}

func TestLensNames(t *testing.T) {
	holdName(t, "", false)
	for _, s := range rightLensNames() {
		holdName(t, s, true)
	}
	for _, s := range append(wrongLensNames(), " ", "a ", " a", "a b", "\n", "a\n", "\na", "a\nb", "#", "a#", "\u00a7", "a\u00a7", strings.Repeat("x", 1000000), strings.Repeat("\u03bb", 100000)) {
		holdName(t, s, false)
	}
	for _, broken := range brokenBytes() {
		for _, s := range []string{broken, broken + "a", "a" + broken, "a" + broken + "a", "\u03bb" + broken, broken + "\u03bb", "\u03bb" + broken + "\u03bb", "a" + broken + "-", "ab" + broken + broken + "cd"} {
			holdName(t, s, false)
		}
	}
	// The last rune of 40 bytes is cut off by a byte.
	holdName(t, strings.Repeat("\u03bb", 20)[:39], false)
	holdName(t, strings.Repeat("\u03bb", 21)[:41], false)
}

// Every rune that there is, alone, at the end and in the midst of a name.
func TestRunesOfLensNames(t *testing.T) {
	const letters = "ABCDEFGHIJKLMNOPQRSTUVWXYZabcdefghijklmnopqrstuvwxyz"
	for r := rune(0); r <= utf8.MaxRune; r++ {
		if r >= 0xD800 && r <= 0xDFFF { // these are no runes
			continue
		}
		s := string(r)
		letter := r < 128 && strings.Contains(letters, s) || r >= 0x370 && r <= 0x3FF
		inside := letter || r == '-' || r >= '0' && r <= '9'
		if impl.LensName(s) != letter || impl.LensName("a"+s) != inside || impl.LensName("\u03bb"+s+"\u03a7") != inside {
			t.Fatalf("rune %U", r)
		}
	}
}

// Every text of up to two bytes, and of more bytes that can make and break runes, held against a regular expression.
func TestBytesOfLensNames(t *testing.T) {
	for a := range 256 {
		holdName(t, string([]byte{byte(a)}), isNameByWords(string([]byte{byte(a)})))
		for b := range 256 {
			s := string([]byte{byte(a), byte(b)})
			holdName(t, s, isNameByWords(s))
		}
	}
	for _, s := range textsOf([]string{"a", "7", "-", "\xcd", "\xb0", "\xcf", "\xbf", "\xaf", "\xd0", "\x80", "\xe0"}, 20000) {
		holdName(t, s, isNameByWords(s))
	}
}

// lensCase is a change of a lens that has no fault.
type lensCase struct {
	what   string
	change func(*impl.Lens)
}

// rightChanges leave fullLens without a fault.
func rightChanges() []lensCase {
	list := []lensCase{
		{"nothing", func(l *impl.Lens) {}},
		{"no zooms", func(l *impl.Lens) { l.Zooms = nil }},
		{"no media", func(l *impl.Lens) {
			l.Media = []impl.Medium{}
			for i := range l.Surfs {
				l.Surfs[i].Medium = "air"
			}
		}},
		{"one surface", func(l *impl.Lens) { l.Surfs, l.Zooms = l.Surfs[:1], nil }},
		{"one surface, solved", func(l *impl.Lens) {
			l.Surfs, l.Zooms = l.Surfs[:1], nil
			l.Surfs[0].Gap = solveVal()
		}},
		{"one zoom", func(l *impl.Lens) { l.Zooms = l.Zooms[1:] }},
		{"no stop", func(l *impl.Lens) { l.Surfs[0].Stop = false }},
		{"the stop at the end", func(l *impl.Lens) { l.Surfs[0].Stop, l.Surfs[4].Stop = false, true }},
		{"the last gap a number", func(l *impl.Lens) { l.Surfs[4].Gap = toldVal(5, 1) }},
		{"the last gap picked up", func(l *impl.Lens) { l.Surfs[4].Gap = pickVal(3, 5, 1) }},
		{"a number's From", func(l *impl.Lens) { l.Surfs[0].Radius.From, l.Surfs[0].Gap.From = math.MinInt64, 77 }},
		{"a solved gap's From", func(l *impl.Lens) { l.Surfs[4].Gap.From = -9 }},
		{"names of unlike case", func(l *impl.Lens) { l.Media[2].Name = "k7" }},
		{"Air", func(l *impl.Lens) { l.Media[2].Name = "Air" }},
		{"airs", func(l *impl.Lens) { l.Media[2].Name = "airs" }},
		{"an Index of a billionth", func(l *impl.Lens) { l.Media[1].Index = frac(1, impl.MaxNum) }},
		{"an Index of a billion", func(l *impl.Lens) { l.Media[1].Index = frac(impl.MaxNum, 1) }},
		{"a zoom of the last surface", func(l *impl.Lens) { l.Surfs[4].Gap, l.Zooms[0].Surf = toldVal(1, 1), 4 }},
		{"a Semi of a billionth", func(l *impl.Lens) { l.Surfs[1].Semi = frac(1, impl.MaxNum) }},
		{"the lens is named air", func(l *impl.Lens) { l.Name = "air" }},
		{"one Gap each", func(l *impl.Lens) { l.Zooms[0].Gaps, l.Zooms[1].Gaps = wholes(1), wholes(2) }},
	}
	for _, f := range wrongFracs() {
		list = append(list, lensCase{"a solved gap's Num", func(l *impl.Lens) { l.Surfs[4].Gap.Num = f }})
	}
	for _, f := range rightFracs() {
		list = append(list, lensCase{"right fractions", func(l *impl.Lens) {
			l.Surfs[0].Radius.Num, l.Surfs[1].Radius.Num, l.Surfs[1].Gap.Num, l.Surfs[2].Gap.Num, l.Surfs[2].Conic, l.Zooms[0].Gaps[2], l.Zooms[1].Gaps[0] = f, f, f, f, f, f, f
			if f.Num >= 0 {
				l.Surfs[1].Semi = f
			}
			if f.Num > 0 {
				l.Media[2].Index = f
			}
		}})
	}
	for _, name := range rightLensNames() {
		list = append(list, lensCase{"the name " + name, func(l *impl.Lens) { l.Name = name }})
		if name != "K7" && name != "air" {
			list = append(list, lensCase{"a medium " + name, func(l *impl.Lens) { l.Media[2].Name, l.Surfs[4].Medium = name, name }})
		}
	}
	return list
}

// wrongChanges make of fullLens one that is ErrForm, each by one thing.
func wrongChanges() []lensCase {
	list := []lensCase{
		{"no surface", func(l *impl.Lens) { l.Surfs, l.Zooms = nil, nil }},
		{"no surface, but zooms", func(l *impl.Lens) { l.Surfs = []impl.Surf{} }},
		{"a medium air", func(l *impl.Lens) { l.Media[2].Name = "air" }},
		{"a first medium air", func(l *impl.Lens) { l.Media = append([]impl.Medium{medium("air", 1, 1)}, l.Media...) }},
		{"a medium twice", func(l *impl.Lens) { l.Media[2].Name = "K7" }},
		{"a medium twice, side by side", func(l *impl.Lens) { l.Media[2].Name = "\u03a3\u03a7" }},
		{"a medium twice, alike in all", func(l *impl.Lens) { l.Media[2] = l.Media[1] }},
		{"an Index of 0", func(l *impl.Lens) { l.Media[2].Index = frac(0, 1) }},
		{"an Index below 0", func(l *impl.Lens) { l.Media[0].Index = frac(-3, 2) }},
		{"an Index of -1 by a billion", func(l *impl.Lens) { l.Media[2].Index = frac(-1, impl.MaxNum) }},
		{"a solved Radius", func(l *impl.Lens) { l.Surfs[4].Radius = solveVal() }},
		{"a solved Gap ahead of the last", func(l *impl.Lens) { l.Surfs[2].Gap = solveVal() }},
		{"a solved Gap right ahead of the last", func(l *impl.Lens) { l.Surfs[3].Gap, l.Zooms = solveVal(), nil }},
		{"a solved Gap at the first", func(l *impl.Lens) { l.Surfs[0].Gap, l.Zooms = solveVal(), nil }},
		{"a medium that is not there", func(l *impl.Lens) { l.Surfs[1].Medium = "K8" }},
		{"no medium", func(l *impl.Lens) { l.Surfs[4].Medium = "" }},
		{"the lens's own name as a medium", func(l *impl.Lens) { l.Surfs[1].Medium = l.Name }},
		{"a medium's name with more behind", func(l *impl.Lens) { l.Surfs[1].Medium = "K7 " }},
		{"media are gone", func(l *impl.Lens) { l.Media = nil }},
		{"a Semi below 0", func(l *impl.Lens) { l.Surfs[1].Semi = frac(-1, impl.MaxNum) }},
		{"two stops", func(l *impl.Lens) { l.Surfs[4].Stop = true }},
		{"two stops side by side", func(l *impl.Lens) { l.Surfs[1].Stop = true }},
		{"a zoom twice", func(l *impl.Lens) { l.Zooms[1].Surf = 3 }},
		{"a zoom of a picked-up gap", func(l *impl.Lens) { l.Zooms[1].Surf = 2 }},
		{"a zoom of a solved gap", func(l *impl.Lens) { l.Zooms[0].Surf = 4 }},
		{"a zoom without Gaps", func(l *impl.Lens) { l.Zooms[1].Gaps = nil }},
		{"a first zoom without Gaps", func(l *impl.Lens) { l.Zooms[0].Gaps = []impl.Frac{} }},
		{"zooms without Gaps", func(l *impl.Lens) { l.Zooms[0].Gaps, l.Zooms[1].Gaps = nil, nil }},
		{"a zoom of fewer Gaps", func(l *impl.Lens) { l.Zooms[1].Gaps = l.Zooms[1].Gaps[:2] }},
		{"a zoom of more Gaps", func(l *impl.Lens) { l.Zooms[1].Gaps = append(l.Zooms[1].Gaps, frac(1, 1)) }},
		{"a third zoom of fewer Gaps", func(l *impl.Lens) { l.Zooms = append(l.Zooms, impl.Zoom{Surf: 1, Gaps: wholes(1, 2)}) }},
	}
	for _, name := range append(wrongLensNames(), "", " ", "a b", "a\n", "a\u00a7", "a#b", "a\xff", "\xce") {
		list = append(list, lensCase{"the name " + name, func(l *impl.Lens) { l.Name = name }})
		list = append(list, lensCase{"a medium " + name, func(l *impl.Lens) { l.Media[2].Name = name }})
		list = append(list, lensCase{"a medium that is used, " + name, func(l *impl.Lens) { l.Media[0].Name, l.Surfs[0].Medium, l.Surfs[3].Medium = name, name, name }})
	}
	for _, kind := range []int64{0, -1, 4, 257, 1<<32 + 1, math.MinInt64, math.MaxInt64} {
		for i := range 5 {
			list = append(list, lensCase{"a Radius of kind " + strconv.FormatInt(kind, 10), func(l *impl.Lens) { l.Surfs[i].Radius.Kind, l.Zooms = kind, nil }})
			list = append(list, lensCase{"a Gap of kind " + strconv.FormatInt(kind, 10), func(l *impl.Lens) { l.Surfs[i].Gap.Kind, l.Zooms = kind, nil }})
		}
	}
	return slices.Concat(list, wrongFracChanges(), wrongPlaceChanges())
}

// wrongFracChanges put each fraction that is not right into each place of its own.
func wrongFracChanges() []lensCase {
	list := []lensCase{}
	for _, f := range wrongFracs() {
		list = append(list,
			lensCase{"a wrong Index", func(l *impl.Lens) { l.Media[2].Index = f }},
			lensCase{"a wrong Radius", func(l *impl.Lens) { l.Surfs[2].Radius.Num = f }},
			lensCase{"a wrong Radius picked up", func(l *impl.Lens) { l.Surfs[4].Radius.Num = f }},
			lensCase{"a wrong Gap", func(l *impl.Lens) { l.Surfs[1].Gap.Num = f }},
			lensCase{"a wrong Gap in the place of which a zoom's stands", func(l *impl.Lens) { l.Surfs[3].Gap.Num = f }},
			lensCase{"a wrong Gap picked up", func(l *impl.Lens) { l.Surfs[2].Gap.Num = f }},
			lensCase{"a wrong last Gap", func(l *impl.Lens) { l.Surfs[4].Gap = impl.Val{Kind: impl.ValNumber, Num: f} }},
			lensCase{"a wrong Semi", func(l *impl.Lens) { l.Surfs[4].Semi = f }},
			lensCase{"a wrong Conic", func(l *impl.Lens) { l.Surfs[0].Conic = f }},
			lensCase{"a wrong Gap of the first zoom", func(l *impl.Lens) { l.Zooms[0].Gaps[0] = f }},
			lensCase{"a wrong Gap of a zoom", func(l *impl.Lens) { l.Zooms[1].Gaps[2] = f }},
		)
	}
	return list
}

// wrongPlaceChanges lead pick-ups and zooms to surfaces that are not ahead or not there.
func wrongPlaceChanges() []lensCase {
	list := []lensCase{}
	for _, at := range []int64{-1, -2, 5, 6, 40, 1 << 32, math.MinInt64, math.MaxInt64} {
		list = append(list, lensCase{"a zoom of surface " + strconv.FormatInt(at, 10), func(l *impl.Lens) { l.Zooms[1].Surf = at }})
	}
	for i := range int64(5) {
		for _, from := range []int64{i, i + 1, 4, 5, -1, math.MinInt64, math.MaxInt64, 1<<32 + i - 1} {
			list = append(list, lensCase{"a Radius from " + strconv.FormatInt(from, 10), func(l *impl.Lens) { l.Surfs[i].Radius = pickVal(from, 1, 1) }})
			list = append(list, lensCase{"a Gap from " + strconv.FormatInt(from, 10), func(l *impl.Lens) { l.Surfs[i].Gap, l.Zooms = pickVal(from, 1, 1), nil }})
		}
	}
	return list
}

func TestLensesWithoutAFault(t *testing.T) {
	for _, c := range rightChanges() {
		holdLensFault(t, c.what, changedLens(fullLens(), c.change), impl.OK)
	}
	// Each surface may be picked up by all behind it.
	for i := range int64(5) {
		for from := range i {
			holdLensFault(t, "pick-ups", changedLens(fullLens(), func(l *impl.Lens) {
				l.Surfs[i].Radius, l.Surfs[i].Gap, l.Zooms = pickVal(from, 1, 1), pickVal(from, -2, 1), nil
			}), impl.OK)
		}
	}
}

func TestLensesWithAFault(t *testing.T) {
	holdLensFault(t, "the zero value", impl.Lens{}, impl.ErrForm)
	for _, c := range wrongChanges() {
		holdLensFault(t, c.what, changedLens(fullLens(), c.change), impl.ErrForm)
	}
}

// likeSurfs are so many surfaces of gaps that are numbers.
func likeSurfs(count int) []impl.Surf {
	return slices.Repeat([]impl.Surf{plainSurf(toldVal(5, 1), toldVal(1, 1), "air")}, count)
}

func manyMedia(count int) []impl.Medium {
	list := []impl.Medium{}
	for i := range count {
		list = append(list, medium("M"+strconv.Itoa(i), 3, 2))
	}
	return list
}

func manyZooms(count int, gaps int) []impl.Zoom {
	list := []impl.Zoom{}
	for i := range count {
		list = append(list, impl.Zoom{Surf: int64(i), Gaps: slices.Repeat(wholes(3), gaps)})
	}
	return list
}

// greatestLens has as much of everything as there may be.
func greatestLens() impl.Lens {
	return impl.Lens{Name: strings.Repeat("n", 40), Media: manyMedia(20), Surfs: likeSurfs(40), Zooms: manyZooms(40, 16)}
}

// tooManyChanges make any lens ErrMany.
func tooManyChanges() []lensCase {
	return []lensCase{
		{"41 surfaces", func(l *impl.Lens) { l.Surfs = likeSurfs(41) }},
		{"21 media", func(l *impl.Lens) { l.Media = manyMedia(21) }},
		{"41 zooms", func(l *impl.Lens) { l.Zooms = manyZooms(41, 3) }},
		{"100000 surfaces", func(l *impl.Lens) { l.Surfs = make([]impl.Surf, 100000) }},
		{"100000 media", func(l *impl.Lens) { l.Media = make([]impl.Medium, 100000) }},
		{"100000 zooms", func(l *impl.Lens) { l.Zooms = make([]impl.Zoom, 100000) }},
	}
}

func TestLensesOfTooMuch(t *testing.T) {
	holdLensFault(t, "the greatest lens", greatestLens(), impl.OK)
	holdLensFault(t, "as many surfaces", lensOf(nil, likeSurfs(40)...), impl.OK)
	holdLensFault(t, "as many media", lensOf(manyMedia(20), likeSurfs(1)...), impl.OK)
	for _, many := range tooManyChanges() {
		for _, l := range []impl.Lens{greatestLens(), fullLens(), {}} {
			holdLensFault(t, many.what, changedLens(l, many.change), impl.ErrMany)
		}
		// Too many comes ahead of all else that is wrong.
		for i, wrong := range wrongChanges() {
			if i%7 == 0 {
				l := changedLens(changedLens(fullLens(), wrong.change), many.change)
				if got := impl.LensFault(l); got != impl.ErrMany {
					t.Errorf("%s, and %s: %d", many.what, wrong.what, got)
				}
			}
		}
	}
	// More than MaxConfigs is ErrForm, not ErrMany.
	for _, gaps := range []int{17, 18, 1000} {
		holdLensFault(t, "too many Gaps", changedLens(greatestLens(), func(l *impl.Lens) { l.Zooms = manyZooms(40, gaps) }), impl.ErrForm)
		holdLensFault(t, "too many Gaps of one", changedLens(greatestLens(), func(l *impl.Lens) { l.Zooms = manyZooms(1, gaps) }), impl.ErrForm)
	}
}

// lensFaultByWords goes through the document's list.
func lensFaultByWords(l impl.Lens) int64 {
	if len(l.Surfs) > 40 || len(l.Media) > 20 || len(l.Zooms) > 40 {
		return impl.ErrMany
	}
	wrong := !isNameByWords(l.Name) || len(l.Surfs) == 0
	names := map[string]int{"air": 1}
	for _, m := range l.Media {
		names[m.Name]++
		wrong = wrong || !isNameByWords(m.Name) || names[m.Name] > 1 || !noneWrong(m.Index) || ratOf(m.Index).Sign() <= 0
	}
	stops, zooms := 0, map[int64]int{}
	for i, s := range l.Surfs {
		for _, v := range []impl.Val{s.Radius, s.Gap} {
			pick := v.Kind == impl.ValPick
			wrong = wrong || (v.Kind == impl.ValNumber || pick) && !noneWrong(v.Num) || pick && (v.From < 0 || v.From >= int64(i))
		}
		wrong = wrong || s.Radius.Kind < 1 || s.Radius.Kind > 2 || s.Gap.Kind < 1 || s.Gap.Kind > 3 || s.Gap.Kind == 3 && i+1 < len(l.Surfs)
		wrong = wrong || names[s.Medium] == 0 || !noneWrong(s.Semi, s.Conic) || ratOf(s.Semi).Sign() < 0
		if s.Stop {
			stops++
		}
	}
	for _, z := range l.Zooms {
		zooms[z.Surf]++
		wrong = wrong || z.Surf < 0 || z.Surf >= int64(len(l.Surfs)) || l.Surfs[z.Surf].Gap.Kind != impl.ValNumber || zooms[z.Surf] > 1
		wrong = wrong || len(z.Gaps) < 1 || len(z.Gaps) > 16 || len(z.Gaps) != len(l.Zooms[0].Gaps) || !noneWrong(z.Gaps...)
	}
	if wrong || stops > 1 {
		return impl.ErrForm
	}
	return impl.OK
}

// drawnLens draws a lens without a fault, of numbers that mostly can be reckoned with.
func drawnLens(d *drawnFracs) impl.Lens {
	l := impl.Lens{Name: []string{"x", "\u03bb", "Lens-2", "air", "surf"}[d.below(5)]}
	names := []string{"air", "A", "\u03a7", "glass-1", "zoom"}
	count := d.below(5)
	for i := range count {
		l.Media = append(l.Media, medium(names[i+1], 1+d.below(9), 1))
		if f := d.frac(); f.Num > 0 {
			l.Media[i].Index = f
		}
	}
	surfs := 1 + d.below(5)
	draw := func(i int64) impl.Val {
		if f := d.frac(); d.below(3) == 0 && i > 0 {
			return pickVal(d.below(i), f.Num, f.Den)
		} else {
			return toldVal(f.Num, f.Den)
		}
	}
	for i := range surfs {
		s := plainSurf(draw(i), draw(i), names[d.below(count+1)])
		if f := d.frac(); f.Num >= 0 && d.below(2) == 0 {
			s.Semi = f
		}
		if d.below(2) == 0 {
			s.Conic = d.frac()
		}
		l.Surfs = append(l.Surfs, s)
	}
	if d.below(2) == 0 {
		l.Surfs[surfs-1].Gap = solveVal()
	}
	if d.below(2) == 0 {
		l.Surfs[d.below(surfs)].Stop = true
	}
	drawZooms(d, &l)
	return l
}

func drawZooms(d *drawnFracs, l *impl.Lens) {
	gaps := 1 + d.below(3)
	for i, s := range l.Surfs {
		if s.Gap.Kind == impl.ValNumber && d.below(2) == 0 {
			z := impl.Zoom{Surf: int64(i)}
			for range gaps {
				z.Gaps = append(z.Gaps, d.frac())
			}
			l.Zooms = append(l.Zooms, z)
		}
	}
	if d.below(2) == 0 {
		slices.Reverse(l.Zooms)
	}
}

// spoilLens changes one thing of a lens, which may be wrong then or not.
func spoilLens(d *drawnFracs, l *impl.Lens) {
	f := wrongFracs()[d.below(int64(len(wrongFracs())))]
	s := &l.Surfs[d.below(int64(len(l.Surfs)))]
	switch d.below(12) {
	case 0:
		l.Name = wrongLensNames()[d.below(int64(len(wrongLensNames())))]
	case 1:
		s.Radius.Num = f
	case 2:
		s.Gap.Num = f
	case 3:
		s.Radius.Kind = d.below(5)
	case 4:
		s.Gap.Kind = d.below(5)
	case 5:
		s.Radius.From, s.Gap.From = d.below(7)-1, d.below(7)-1
	case 6:
		s.Medium = []string{"air", "A", "", "zoom"}[d.below(4)]
	case 7:
		s.Semi = f
	case 8:
		s.Conic = f
	case 9:
		s.Stop = !s.Stop
	case 10:
		l.Media = append(l.Media, medium([]string{"A", "B", "air", "7"}[d.below(4)], d.below(4)-1, 1))
	case 11:
		l.Zooms = append(l.Zooms, impl.Zoom{Surf: d.below(7) - 1, Gaps: wholes(1, 2, 0)[:d.below(4)]})
	}
}

func TestLensFaultOfDrawnLenses(t *testing.T) {
	d := fracsFrom(81)
	seen := map[int64]int{}
	for range 20000 {
		l := drawnLens(d)
		if got := impl.LensFault(l); got != impl.OK {
			t.Fatalf("%v: fault %d", l, got)
		}
		spoilLens(d, &l)
		want := lensFaultByWords(l)
		seen[want]++
		holdLensFault(t, "drawn", copyOfLens(l), want)
	}
	if seen[impl.OK] < 2000 || seen[impl.ErrForm] < 2000 {
		t.Error(seen)
	}
}

func holdConfigs(t *testing.T, what string, l impl.Lens, want int64) {
	t.Helper()
	for range 2 {
		got := int64(-1)
		if !lensLeftAlone(l, func() { got = impl.ConfigsOf(l) }) {
			t.Errorf("%s: ConfigsOf changes %s", what, brief(l))
		}
		if got != want {
			t.Errorf("%s: ConfigsOf(%s) = %d, want %d", what, brief(l), got, want)
		}
	}
}

func TestConfigsOf(t *testing.T) {
	holdConfigs(t, "the zero value", impl.Lens{}, 0)
	for _, c := range slices.Concat(wrongChanges(), tooManyChanges()) {
		holdConfigs(t, c.what, changedLens(fullLens(), c.change), 0)
	}
	for _, c := range rightChanges() {
		l := changedLens(fullLens(), c.change)
		want := int64(1)
		if len(l.Zooms) > 0 {
			want = int64(len(l.Zooms[0].Gaps))
		}
		holdConfigs(t, c.what, l, want)
	}
	holdConfigs(t, "no zooms", lensOf(nil, likeSurfs(3)...), 1)
	for gaps := 1; gaps <= 16; gaps++ {
		for _, zooms := range []int{1, 2, 40} {
			holdConfigs(t, "zooms", changedLens(greatestLens(), func(l *impl.Lens) { l.Zooms = manyZooms(zooms, gaps) }), int64(gaps))
		}
	}
	holdConfigs(t, "too many Gaps", changedLens(greatestLens(), func(l *impl.Lens) { l.Zooms = manyZooms(2, 17) }), 0)
}
