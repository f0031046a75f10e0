package impl

import (
	"strconv"
	"strings"
)

const OK = 0
const ErrForm = 1
const ErrMany = 2
const ErrRange = 3
const ErrNone = 4
const ErrText = 5
const ErrZero = 6
const MaxNum = 1000000000
const MaxText = 4000

// maxWhole is the most that MakeFrac takes: far enough within an int64 that a sign can be turned.
const maxWhole = 1000000000000000000

// maxDigits is how many digits surely stay below maxWhole.
const maxDigits = 18

// How far a fraction's text has been read; a text may end in fracHead and in fracTail.
const (
	fracStart = iota
	fracMinus
	fracHead
	fracMark
	fracTail
	fracStuck
)

type Frac struct {
	Num int64
	Den int64
}
type FracResult struct {
	Code int64
	Frac Frac
}
type FracText struct {
	Code int64
	At   int64
	Frac Frac
}

// fracWords is a fraction's text taken apart; mark is 0 where neither `.` nor `/` stands.
type fracWords struct {
	minus bool
	head  string
	mark  byte
	at    int64
	tail  string
}

func FracFault(f Frac) int64 {
	if !withinBounds(f) || lowestTerms(f.Num, f.Den) != f {
		return ErrForm
	}
	return OK
}

func MakeFrac(num int64, den int64) FracResult {
	if num < -maxWhole || num > maxWhole || den < -maxWhole || den > maxWhole {
		return FracResult{Code: ErrRange}
	}
	if den == 0 {
		return FracResult{Code: ErrZero}
	}
	return quotientOf(num, den)
}

func AddFrac(a Frac, b Frac) FracResult {
	if anyFracFault(a, b) {
		return FracResult{Code: ErrForm}
	}
	return quotientOf(a.Num*b.Den+b.Num*a.Den, a.Den*b.Den)
}

func SubFrac(a Frac, b Frac) FracResult {
	if anyFracFault(a, b) {
		return FracResult{Code: ErrForm}
	}
	return quotientOf(a.Num*b.Den-b.Num*a.Den, a.Den*b.Den)
}

func MulFrac(a Frac, b Frac) FracResult {
	if anyFracFault(a, b) {
		return FracResult{Code: ErrForm}
	}
	return quotientOf(a.Num*b.Num, a.Den*b.Den)
}

func DivFrac(a Frac, b Frac) FracResult {
	if anyFracFault(a, b) {
		return FracResult{Code: ErrForm}
	}
	if b == (Frac{Num: 0, Den: 1}) {
		return FracResult{Code: ErrZero}
	}
	return quotientOf(a.Num*b.Den, a.Den*b.Num)
}

func CompareFrac(a Frac, b Frac) int64 {
	if anyFracFault(a, b) || a == b {
		return 0
	}
	if a.Num*b.Den < b.Num*a.Den {
		return -1
	}
	return 1
}

func FloorFrac(f Frac) int64 {
	if FracFault(f) != OK {
		return 0
	}
	whole := f.Num / f.Den
	if f.Num%f.Den < 0 { // the language's quotient goes towards 0
		whole--
	}
	return whole
}

func ParseFrac(text string) FracText {
	if len(text) > MaxText {
		return FracText{Code: ErrMany}
	}
	if at := stuckAt(text); at >= 0 {
		return FracText{Code: ErrText, At: at}
	}
	words := splitFrac(text)
	if tooManyDigits(words) {
		return FracText{Code: ErrRange}
	}
	made := MakeFrac(numOf(words), denOf(words))
	if made.Code == ErrZero {
		return FracText{Code: ErrZero, At: words.at}
	}
	return FracText{Code: made.Code, Frac: made.Frac}
}

func FormatFrac(f Frac) string {
	if FracFault(f) != OK {
		return ""
	}
	num := strconv.FormatInt(f.Num, 10)
	if f.Den == 1 {
		return num
	}
	return num + "/" + strconv.FormatInt(f.Den, 10)
}

func withinBounds(f Frac) bool {
	return f.Den >= 1 && f.Den <= MaxNum && f.Num >= -MaxNum && f.Num <= MaxNum
}

func anyFracFault(list ...Frac) bool {
	for _, f := range list {
		if FracFault(f) != OK {
			return true
		}
	}
	return false
}

// quotientOf takes a den other than 0, and sizes of both up to twice maxWhole: a sum of two right fractions comes so far.
func quotientOf(num int64, den int64) FracResult {
	f := lowestTerms(num, den)
	if !withinBounds(f) {
		return FracResult{Code: ErrRange}
	}
	return FracResult{Frac: f}
}

func lowestTerms(num int64, den int64) Frac {
	if den < 0 {
		num, den = -num, -den
	}
	by := commonDivisor(num, den)
	return Frac{Num: num / by, Den: den / by}
}

func commonDivisor(a int64, b int64) int64 {
	for b != 0 {
		a, b = b, a%b
	}
	if a < 0 {
		return -a
	}
	return a
}

// stuckAt is the place where a text can't go on or ends too early, -1 if it is that of a fraction.
func stuckAt(text string) int64 {
	state := fracStart
	for at, r := range text {
		state = nextFracState(state, r)
		if state == fracStuck {
			return int64(at)
		}
	}
	if state == fracHead || state == fracTail {
		return -1
	}
	return int64(len(text))
}

func nextFracState(state int, r rune) int {
	isDigit := r >= '0' && r <= '9'
	switch {
	case isDigit && (state == fracMark || state == fracTail):
		return fracTail
	case isDigit:
		return fracHead
	case r == '-' && state == fracStart:
		return fracMinus
	case (r == '.' || r == '/') && state == fracHead:
		return fracMark
	}
	return fracStuck
}

// splitFrac takes apart a text that stuckAt found to be a fraction's.
func splitFrac(text string) fracWords {
	digits, minus := strings.CutPrefix(text, "-")
	words := fracWords{minus: minus, head: digits}
	cut := strings.IndexAny(digits, "./")
	if cut >= 0 {
		words.head, words.mark, words.tail = digits[:cut], digits[cut], digits[cut+1:]
		words.at = int64(len(text) - len(digits) + cut)
	}
	return words
}

func tooManyDigits(words fracWords) bool {
	head, tail := len(words.head), len(words.tail)
	if words.mark == '.' {
		return head+tail > maxDigits
	}
	return head > maxDigits || tail > maxDigits
}

func numOf(words fracWords) int64 {
	digits := words.head
	if words.mark == '.' {
		digits += words.tail
	}
	if words.minus {
		return -wholeOf(digits)
	}
	return wholeOf(digits)
}

func denOf(words fracWords) int64 {
	switch words.mark {
	case '.':
		return wholeOf("1" + strings.Repeat("0", len(words.tail)))
	case '/':
		return wholeOf(words.tail)
	}
	return 1
}

// wholeOf takes digits alone, at most maxDigits of them.
func wholeOf(digits string) int64 {
	sum := int64(0)
	for _, r := range digits {
		sum = sum*10 + int64(r-'0')
	}
	return sum
}
