package tests

import (
	"math/big"
	"regexp"
	"strings"
	"testing"

	"loop.example/g00049/impl"
)

var fracForm = regexp.MustCompile(`^(-?)([0-9]+)(?:([./])([0-9]+))?$`)

// fracBegun matches what more bytes could still make a fraction's text of, and such texts.
var fracBegun = regexp.MustCompile(`^-?(?:[0-9]+[./])?[0-9]*$`)

// readSlowly is what the document asks ParseFrac for, by regular expressions and big numbers.
func readSlowly(text string) impl.FracText {
	if len(text) > impl.MaxText {
		return impl.FracText{Code: impl.ErrMany}
	}
	parts := fracForm.FindStringSubmatch(text)
	if parts == nil {
		at := 0
		for at < len(text) && fracBegun.MatchString(text[:at+1]) {
			at++
		}
		return impl.FracText{Code: impl.ErrText, At: int64(at)}
	}
	minus, head, mark, tail := parts[1], parts[2], parts[3], parts[4]
	if len(head) > 18 || len(tail) > 18 || mark == "." && len(head)+len(tail) > 18 {
		return impl.FracText{Code: impl.ErrRange}
	}
	if mark == "/" && strings.Trim(tail, "0") == "" {
		return impl.FracText{Code: impl.ErrZero, At: int64(len(minus) + len(head))}
	}
	told := toldOf(readParts(minus, head, mark, tail))
	return impl.FracText{Code: told.Code, Frac: told.Frac}
}

func readParts(minus string, head string, mark string, tail string) *big.Rat {
	num, den := new(big.Int), big.NewInt(1)
	switch mark {
	case ".":
		num.SetString(head+tail, 10)
		den.Exp(big.NewInt(10), big.NewInt(int64(len(tail))), nil)
	case "/":
		num.SetString(head, 10)
		den.SetString(tail, 10)
	default:
		num.SetString(head, 10)
	}
	if minus != "" {
		num.Neg(num)
	}
	return new(big.Rat).SetFrac(num, den)
}

func TestParseFracExamples(t *testing.T) {
	for text, want := range map[string]impl.FracText{
		"2.50": {Frac: frac(5, 2)},
		"-6/4": {Frac: frac(-3, 2)},
		"1/0":  {Code: impl.ErrZero, At: 1},
		"1.":   {Code: impl.ErrText, At: 2},
	} {
		if got := impl.ParseFrac(text); got != want {
			t.Errorf("ParseFrac(%q) = %v, want %v", text, got, want)
		}
	}
}

func TestParseFracReads(t *testing.T) {
	for text, want := range map[string]impl.Frac{
		"0": frac(0, 1), "-0": frac(0, 1), "-0.0": frac(0, 1), "0/7": frac(0, 1), "-0/7": frac(0, 1), "000": frac(0, 1),
		"5": frac(5, 1), "-5": frac(-5, 1), "007": frac(7, 1), "-0.5": frac(-1, 2), "0.125": frac(1, 8), "3.000": frac(3, 1),
		"10/04": frac(5, 2), "-3/4": frac(-3, 4), "1000000000": frac(1000000000, 1), "-1000000000": frac(-1000000000, 1),
		"1/1000000000": frac(1, 1000000000), "0.000000001": frac(1, 1000000000), "-0.000000001": frac(-1, 1000000000),
		"0.0000000050": frac(1, 200000000), "000000000000000001": frac(1, 1), "000000000000000001/000000000000000002": frac(1, 2),
		"999999999000000000/999999999000000000": frac(1, 1), "0.00000000000000000": frac(0, 1), "1.00000000000000000": frac(1, 1),
		"999999999999999999/999999999999999999": frac(1, 1), "-999999999999999999/999999999999999999": frac(-1, 1),
		"00000000000000000.5": frac(1, 2), "0.50000000000000000": frac(1, 2), "999999999.000000000": frac(999999999, 1),
	} {
		if got := impl.ParseFrac(text); got != (impl.FracText{Frac: want}) {
			t.Errorf("ParseFrac(%q) = %v, want %v", text, got, want)
		}
	}
}

func TestParseFracCodes(t *testing.T) {
	noughts := func(n int) string { return strings.Repeat("0", n) }
	for _, c := range []struct {
		text string
		code int64
		at   int64
	}{
		{"", impl.ErrText, 0}, {"-", impl.ErrText, 1}, {"1/", impl.ErrText, 2}, {"-12.", impl.ErrText, 4}, {"-12/", impl.ErrText, 4},
		{"+1", impl.ErrText, 0}, {"--1", impl.ErrText, 1}, {"-.5", impl.ErrText, 1}, {".5", impl.ErrText, 0}, {"/2", impl.ErrText, 0},
		{" 1", impl.ErrText, 0}, {"1 ", impl.ErrText, 1}, {"1\n", impl.ErrText, 1}, {"1/-2", impl.ErrText, 2}, {"1.-2", impl.ErrText, 2},
		{"1.2.3", impl.ErrText, 3}, {"1/2/3", impl.ErrText, 3}, {"1.2/3", impl.ErrText, 3}, {"1/2.3", impl.ErrText, 3}, {"1-2", impl.ErrText, 1},
		{"1e5", impl.ErrText, 1}, {"0x1", impl.ErrText, 1}, {"1_0", impl.ErrText, 1}, {"1,5", impl.ErrText, 1}, {"1:", impl.ErrText, 1}, {"1.x", impl.ErrText, 2},
		{"12\x00", impl.ErrText, 2}, {"1\xff", impl.ErrText, 1}, {"\x80", impl.ErrText, 0}, {"1/\xc3\xa9", impl.ErrText, 2}, {"1/2\xe2\x82", impl.ErrText, 3},
		{"\u0663", impl.ErrText, 0}, {"3\u0663", impl.ErrText, 1}, {"\uff11", impl.ErrText, 0}, {"\u22121", impl.ErrText, 0}, {"1\u20442", impl.ErrText, 1}, {"\ufffd", impl.ErrText, 0},
		{noughts(19), impl.ErrRange, 0}, {"-" + noughts(19), impl.ErrRange, 0}, {noughts(19) + "/1", impl.ErrRange, 0}, {"1/" + noughts(18) + "1", impl.ErrRange, 0},
		{"0." + noughts(18), impl.ErrRange, 0}, {noughts(18) + ".0", impl.ErrRange, 0}, {"1234567890.123456789", impl.ErrRange, 0},
		{"1/" + noughts(19), impl.ErrRange, 0}, {noughts(19) + "/0", impl.ErrRange, 0}, {strings.Repeat("9", 100), impl.ErrRange, 0},
		{noughts(19) + "x", impl.ErrText, 19}, {noughts(19) + "/", impl.ErrText, 20}, {"1/0x", impl.ErrText, 3},
		{"0/0", impl.ErrZero, 1}, {"-7/000", impl.ErrZero, 2}, {"-12/0", impl.ErrZero, 3}, {"1/" + noughts(18), impl.ErrZero, 1}, {"9999999999/0", impl.ErrZero, 10},
		{"1000000001", impl.ErrRange, 0}, {"-1000000001", impl.ErrRange, 0}, {"1/1000000001", impl.ErrRange, 0}, {"0.0000000001", impl.ErrRange, 0},
		{"1000000000.1", impl.ErrRange, 0}, {"999999999999999999", impl.ErrRange, 0}, {"2000000002/2", impl.ErrRange, 0}, {"1/999999999999999999", impl.ErrRange, 0},
		{noughts(impl.MaxText), impl.ErrRange, 0}, {noughts(impl.MaxText-1) + "x", impl.ErrText, impl.MaxText - 1}, {noughts(impl.MaxText-1) + "/", impl.ErrText, impl.MaxText},
		{noughts(impl.MaxText + 1), impl.ErrMany, 0}, {strings.Repeat("x", impl.MaxText), impl.ErrText, 0}, {strings.Repeat("x", impl.MaxText+1), impl.ErrMany, 0},
		{strings.Repeat("\u00e9", impl.MaxText/2), impl.ErrText, 0}, {strings.Repeat("\u00e9", impl.MaxText/2) + "1", impl.ErrMany, 0},
	} {
		if got := impl.ParseFrac(c.text); got != (impl.FracText{Code: c.code, At: c.at}) {
			t.Errorf("ParseFrac(%.40q) = %v, want %d at %d", c.text, got, c.code, c.at)
		}
	}
}

// Every text of up to six of these pieces, held against the slow reader.
func TestParseFracOfAllShortTexts(t *testing.T) {
	pieces := []string{"-", "0", "3", ".", "/", "x", "\xff", "\u00e9"}
	for _, text := range textsOf(pieces, 300000) {
		if got, want := impl.ParseFrac(text), readSlowly(text); got != want {
			t.Fatalf("ParseFrac(%q) = %v, want %v", text, got, want)
		}
	}
}

func TestParseFracOfLongDigits(t *testing.T) {
	var runs []string
	for _, n := range []int{1, 2, 8, 9, 10, 16, 17, 18, 19, 20} {
		runs = append(runs, strings.Repeat("0", n), strings.Repeat("0", n-1)+"4", "1"+strings.Repeat("0", n-1), strings.Repeat("9", n))
	}
	for _, minus := range []string{"", "-"} {
		for _, head := range runs {
			texts := []string{minus + head}
			for _, tail := range runs {
				texts = append(texts, minus+head+"."+tail, minus+head+"/"+tail)
			}
			for _, text := range texts {
				if got, want := impl.ParseFrac(text), readSlowly(text); got != want {
					t.Errorf("ParseFrac(%q) = %v, want %v", text, got, want)
				}
			}
		}
	}
}

func TestFormatFrac(t *testing.T) {
	for want, f := range map[string]impl.Frac{
		"-3/4": frac(-3, 4), "5": frac(5, 1), "0": frac(0, 1), "-1": frac(-1, 1), "1000000000": frac(1000000000, 1), "-1000000000": frac(-1000000000, 1),
		"1/1000000000": frac(1, 1000000000), "-999999999/1000000000": frac(-999999999, 1000000000), "10/3": frac(10, 3),
	} {
		if got := impl.FormatFrac(f); got != want {
			t.Errorf("FormatFrac(%v) = %q, want %q", f, got, want)
		}
	}
}

func TestFracTextsAreReadBack(t *testing.T) {
	for _, f := range rightFracs() {
		if got := impl.ParseFrac(impl.FormatFrac(f)); got != (impl.FracText{Frac: f}) {
			t.Errorf("%v told as %q is read as %v", f, impl.FormatFrac(f), got)
		}
	}
}
