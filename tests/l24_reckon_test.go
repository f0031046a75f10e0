package tests

import (
	"fmt"
	"math"
	"math/big"
	"strings"
	"testing"

	"loop.example/g00049/impl"
)

func tellByWords(q impl.Quantity) string {
	if quantityCodeByWords(q) != impl.OK {
		return ""
	}
	text := strings.TrimSuffix(ratOf(q.Value).String(), "/1")
	for i, exponent := range []int64{q.Metre, q.Second, q.Watt} {
		if exponent != 0 {
			text += " " + strings.TrimSuffix(fmt.Sprintf("%c^%d|", "msW"[i], exponent), "|")
		}
		if exponent == 1 {
			text = strings.TrimSuffix(text, "^1")
		}
	}
	return text
}

func holdTell(t *testing.T, q impl.Quantity, want string) {
	t.Helper()
	for range 2 {
		if got := impl.TellQuantity(q); got != want {
			t.Errorf("TellQuantity(%v) = %q, want %q", q, got, want)
		}
	}
	if told := tellByWords(q); told != want {
		t.Errorf("%v: the words tell %q, not %q", q, told, want)
	}
}

// reckonedByWords reckons by numbers without bounds: '+', '*' or '/'.
func reckonedByWords(a impl.Quantity, by byte, b impl.Quantity) impl.QuantityResult {
	if quantityCodeByWords(a) != impl.OK || quantityCodeByWords(b) != impl.OK {
		return noQuantity(impl.ErrForm)
	}
	x, y, r := ratOf(a.Value), ratOf(b.Value), new(big.Rat)
	metre, second, watt := a.Metre, a.Second, a.Watt
	switch by {
	case '+':
		if a.Metre != b.Metre || a.Second != b.Second || a.Watt != b.Watt {
			return noQuantity(impl.ErrForm)
		}
		r.Add(x, y)
	case '*':
		r.Mul(x, y)
		metre, second, watt = metre+b.Metre, second+b.Second, watt+b.Watt
	case '/':
		if y.Sign() == 0 {
			return noQuantity(impl.ErrZero)
		}
		r.Quo(x, y)
		metre, second, watt = metre-b.Metre, second-b.Second, watt-b.Watt
	}
	told := toldOf(r)
	q := quantityOf(told.Frac, metre, second, watt)
	if told.Code != impl.OK || quantityCodeByWords(q) != impl.OK {
		return noQuantity(impl.ErrRange)
	}
	return impl.QuantityResult{Quantity: q}
}

func reckon(a impl.Quantity, by byte, b impl.Quantity) impl.QuantityResult {
	switch by {
	case '+':
		return impl.AddQuantity(a, b)
	case '*':
		return impl.TimesQuantity(a, b)
	}
	return impl.OverQuantity(a, b)
}

func holdReckoned(t *testing.T, a impl.Quantity, by byte, b impl.Quantity, want impl.QuantityResult) {
	t.Helper()
	for range 2 {
		if got := reckon(a, by, b); got != want {
			t.Errorf("%v %c %v = %v, want %v", a, by, b, got, want)
		}
	}
	if told := reckonedByWords(a, by, b); told != want {
		t.Errorf("%v %c %v: the words tell %v, not %v", a, by, b, told, want)
	}
}

func holdReckonedByWords(t *testing.T, a impl.Quantity, by byte, b impl.Quantity) impl.QuantityResult {
	t.Helper()
	want := reckonedByWords(a, by, b)
	holdReckoned(t, a, by, b, want)
	return want
}

// wrongQuantities have one fault each, and one has two.
func wrongQuantities() []impl.Quantity {
	list := []impl.Quantity{
		quantityOf(frac(1, 1), 10, 0, 0), quantityOf(frac(1, 1), 0, 10, 0), quantityOf(frac(1, 1), 0, 0, 10),
		quantityOf(frac(1, 1), -10, 0, 0), quantityOf(frac(1, 1), 0, -10, 0), quantityOf(frac(1, 1), 0, 0, -10),
		quantityOf(frac(1, 1), math.MaxInt64, 0, 0), quantityOf(frac(1, 1), 0, math.MinInt64, 0), quantityOf(frac(1, 1), 0, 0, math.MaxInt64),
		quantityOf(frac(1, 0), 0, 0, math.MinInt64),
	}
	for _, f := range wrongFracs() {
		list = append(list, quantityOf(f, 0, 0, 0))
	}
	return list
}

func TestTellQuantityOfOneUnit(t *testing.T) {
	for exponent := int64(-9); exponent <= 9; exponent++ {
		told := map[int64]string{0: "", 1: " %"}[exponent]
		if exponent != 0 && exponent != 1 {
			told = " %^" + fmt.Sprint(exponent)
		}
		for _, f := range []impl.Frac{frac(0, 1), frac(5, 1), frac(-3, 4), frac(-1000000000, 999999999)} {
			number := impl.FormatFrac(f)
			holdTell(t, quantityOf(f, exponent, 0, 0), number+strings.ReplaceAll(told, "%", "m"))
			holdTell(t, quantityOf(f, 0, exponent, 0), number+strings.ReplaceAll(told, "%", "s"))
			holdTell(t, quantityOf(f, 0, 0, exponent), number+strings.ReplaceAll(told, "%", "W"))
		}
	}
}

func TestTellQuantityOfAllUnits(t *testing.T) {
	holdTell(t, quantityOf(frac(3, 1000), 1, 0, 0), "3/1000 m")
	holdTell(t, quantityOf(frac(9, 1000000), 2, 0, 0), "9/1000000 m^2")
	holdTell(t, quantityOf(frac(-7, 1), 1, 1, 1), "-7 m s W")
	holdTell(t, quantityOf(frac(1, 2), -1, -1, -1), "1/2 m^-1 s^-1 W^-1")
	holdTell(t, quantityOf(frac(1, 2), 9, -9, 2), "1/2 m^9 s^-9 W^2")
	holdTell(t, quantityOf(frac(1, 2), 0, -2, 1), "1/2 s^-2 W")
	holdTell(t, quantityOf(frac(1, 2), 1, 0, 3), "1/2 m W^3")
	holdTell(t, quantityOf(frac(1, 2), 1, -1, 0), "1/2 m s^-1")
	holdTell(t, quantityOf(frac(0, 1), 0, 0, 0), "0")
	for metre := int64(-9); metre <= 9; metre += 2 {
		for second := int64(-9); second <= 9; second++ {
			for watt := int64(-9); watt <= 9; watt++ {
				q := quantityOf(frac(2, 3), metre, second, watt)
				holdTell(t, q, tellByWords(q))
			}
		}
	}
}

func TestTellQuantityOfFaults(t *testing.T) {
	for _, q := range wrongQuantities() {
		holdTell(t, q, "")
	}
}

// TestReckonedFaults: a quantity that is not right is told ahead of all else, on either side.
func TestReckonedFaults(t *testing.T) {
	right := []impl.Quantity{quantityOf(frac(0, 1), 0, 0, 0), quantityOf(frac(1, 1), 1, 0, 0), quantityOf(frac(1000000000, 1), 9, 9, 9), quantityOf(frac(1, 1000000000), -9, -9, -9)}
	for _, by := range []byte("+*/") {
		for _, wrong := range wrongQuantities() {
			for _, q := range right {
				holdReckoned(t, wrong, by, q, noQuantity(impl.ErrForm))
				holdReckoned(t, q, by, wrong, noQuantity(impl.ErrForm))
			}
			holdReckoned(t, wrong, by, wrong, noQuantity(impl.ErrForm))
		}
	}
}

func TestAddQuantityTold(t *testing.T) {
	a := quantityOf(frac(1, 2), 1, -2, 3)
	holdReckoned(t, a, '+', quantityOf(frac(1, 3), 1, -2, 3), toldQuantity(frac(5, 6), 1, -2, 3))
	holdReckoned(t, a, '+', quantityOf(frac(-1, 2), 1, -2, 3), toldQuantity(frac(0, 1), 1, -2, 3))
	for _, exponents := range [][3]int64{{0, -2, 3}, {2, -2, 3}, {1, 2, 3}, {1, -1, 3}, {1, -3, 3}, {1, -2, 4}, {1, -2, -3}, {-2, 1, 3}, {0, 0, 0}} {
		holdReckoned(t, a, '+', quantityOf(frac(1, 2), exponents[0], exponents[1], exponents[2]), noQuantity(impl.ErrForm))
		holdReckoned(t, quantityOf(frac(0, 1), exponents[0], exponents[1], exponents[2]), '+', a, noQuantity(impl.ErrForm))
	}
	most := quantityOf(frac(1000000000, 1), 9, -9, 0)
	holdReckoned(t, most, '+', quantityOf(frac(1, 1), 9, -9, 0), noQuantity(impl.ErrRange))
	holdReckoned(t, most, '+', quantityOf(frac(1, 2), 9, -9, 0), noQuantity(impl.ErrRange))
	holdReckoned(t, most, '+', quantityOf(frac(0, 1), 9, -9, 0), impl.QuantityResult{Quantity: most})
	holdReckoned(t, most, '+', quantityOf(frac(1, 1), 9, -9, 1), noQuantity(impl.ErrForm))
	holdReckoned(t, quantityOf(frac(999999999, 1), 9, -9, 0), '+', quantityOf(frac(1, 1), 9, -9, 0), impl.QuantityResult{Quantity: most})
}

func TestTimesAndOverQuantityTold(t *testing.T) {
	side := quantityOf(frac(3, 1000), 1, 0, 0)
	holdReckoned(t, side, '*', side, toldQuantity(frac(9, 1000000), 2, 0, 0))
	holdReckoned(t, side, '/', side, toldQuantity(frac(1, 1), 0, 0, 0))
	holdReckoned(t, side, '/', quantityOf(frac(-1, 2), 0, 1, 0), toldQuantity(frac(-3, 500), 1, -1, 0))
	holdReckoned(t, quantityOf(frac(50, 1), 0, -1, 0), '*', quantityOf(frac(2, 1), 0, 1, 1), toldQuantity(frac(100, 1), 0, 0, 1))
	holdReckoned(t, quantityOf(frac(0, 1), 4, 5, -6), '/', side, toldQuantity(frac(0, 1), 3, 5, -6))
	most, least := quantityOf(frac(1000000000, 1), 0, 0, 0), quantityOf(frac(1, 1000000000), 0, 0, 0)
	holdReckoned(t, most, '*', least, toldQuantity(frac(1, 1), 0, 0, 0))
	holdReckoned(t, most, '/', most, toldQuantity(frac(1, 1), 0, 0, 0))
	holdReckoned(t, most, '*', quantityOf(frac(2, 1), 0, 0, 0), noQuantity(impl.ErrRange))
	holdReckoned(t, least, '*', quantityOf(frac(1, 2), 0, 0, 0), noQuantity(impl.ErrRange))
	holdReckoned(t, most, '/', least, noQuantity(impl.ErrRange))
	holdReckoned(t, least, '/', most, noQuantity(impl.ErrRange))
}

// TestQuotientByZero: a 0 is told ahead of exponents that leave their bounds, but not ahead of what is not right.
func TestQuotientByZero(t *testing.T) {
	for _, q := range []impl.Quantity{quantityOf(frac(0, 1), 0, 0, 0), quantityOf(frac(1, 1), 9, 9, 9), quantityOf(frac(-5, 7), -9, -9, -9)} {
		for _, exponent := range []int64{-9, -1, 0, 1, 9} {
			holdReckoned(t, q, '/', quantityOf(frac(0, 1), exponent, -exponent, exponent), noQuantity(impl.ErrZero))
			holdReckonedByWords(t, quantityOf(frac(0, 1), exponent, -exponent, exponent), '/', q)
		}
		for _, wrong := range wrongFracs() {
			holdReckoned(t, q, '/', quantityOf(wrong, 0, 0, 0), noQuantity(impl.ErrForm))
		}
	}
}

// TestExponentsAtTheirBounds: each exponent by itself, at its bounds and one beyond.
func TestExponentsAtTheirBounds(t *testing.T) {
	made := []func(int64) impl.Quantity{
		func(e int64) impl.Quantity { return quantityOf(frac(2, 3), e, 0, 0) },
		func(e int64) impl.Quantity { return quantityOf(frac(2, 3), 0, e, 0) },
		func(e int64) impl.Quantity { return quantityOf(frac(2, 3), 0, 0, e) },
	}
	for i, make := range made {
		for a := int64(-9); a <= 9; a++ {
			for b := int64(-9); b <= 9; b++ {
				times, over := noQuantity(impl.ErrRange), noQuantity(impl.ErrRange)
				if a+b >= -9 && a+b <= 9 {
					times.Code, times.Quantity = impl.OK, made[i](a+b)
					times.Quantity.Value = frac(4, 9)
				}
				if a-b >= -9 && a-b <= 9 {
					over.Code, over.Quantity = impl.OK, made[i](a-b)
					over.Quantity.Value = frac(1, 1)
				}
				holdReckoned(t, make(a), '*', make(b), times)
				holdReckoned(t, make(a), '/', make(b), over)
			}
		}
	}
	// A number that leaves its bounds has the same code.
	most := quantityOf(frac(1000000000, 1), 9, 0, 0)
	holdReckoned(t, most, '*', most, noQuantity(impl.ErrRange))
}

// drawnQuantity has small exponents more often than great ones, and now and then a fault.
func drawnQuantity(draw *numbers) impl.Quantity {
	fracs, most := rightFracs(), 1+draw.below(10)
	exponent := func() int64 { return draw.below(2*most+1) - most }
	return quantityOf(fracs[draw.below(int64(len(fracs)))], exponent(), exponent(), exponent())
}

// TestReckonedByWords: what is multiplied is divided out again, and the other way about; sums and products do not hang on their order.
func TestReckonedByWords(t *testing.T) {
	draw := numbers{state: 2401}
	codes, undone := map[int64]int{}, 0
	for range 4000 {
		a, b := drawnQuantity(&draw), drawnQuantity(&draw)
		if draw.below(3) == 0 {
			b.Metre, b.Second, b.Watt = a.Metre, a.Second, a.Watt
		}
		for _, by := range []byte("+*/") {
			codes[holdReckonedByWords(t, a, by, b).Code]++
		}
		product, quotient := impl.TimesQuantity(a, b), impl.OverQuantity(a, b)
		if product.Code == impl.OK && b.Value.Num != 0 {
			holdReckoned(t, product.Quantity, '/', b, impl.QuantityResult{Quantity: a})
			undone++
		}
		if quotient.Code == impl.OK {
			holdReckoned(t, quotient.Quantity, '*', b, impl.QuantityResult{Quantity: a})
			undone++
		}
		if impl.TimesQuantity(b, a) != product || impl.AddQuantity(b, a) != impl.AddQuantity(a, b) {
			t.Errorf("%v and %v: the order counts", a, b)
		}
	}
	if codes[impl.OK] < 1000 || codes[impl.ErrForm] < 1000 || codes[impl.ErrRange] < 500 || codes[impl.ErrZero] < 10 || undone < 1000 {
		t.Errorf("codes told: %v, undone %d", codes, undone)
	}
}

// TestUnitsDivideOut: a number of any unit, by one of that unit, is the bare number.
func TestUnitsDivideOut(t *testing.T) {
	for unit := range scalesOf() {
		one := impl.ReadQuantity("1", unit).Quantity
		for _, number := range []string{"1", "-7", "3/4", "250", "0"} {
			told := impl.ReadQuantity(number, unit)
			bare := impl.ReadQuantity(number, "1")
			if number == "3/4" && (unit == "nm" || unit == "ns") {
				holdReadQuantity(t, number, unit, noQuantity(impl.ErrRange))
				continue
			}
			holdReckoned(t, told.Quantity, '/', one, bare)
			holdReckoned(t, bare.Quantity, '*', one, told)
		}
	}
	for _, same := range [][4]string{
		{"1", "km", "1000", "m"}, {"1", "m", "1000", "mm"}, {"1", "mm", "1000", "um"}, {"1", "um", "1000", "nm"}, {"1", "s", "1000", "ms"}, {"1", "ms", "1000", "us"},
		{"1", "us", "1000", "ns"}, {"1", "W", "1000", "mW"}, {"1", "mW", "1000", "uW"}, {"1", "kHz", "1000", "Hz"}, {"1", "MHz", "1000", "kHz"},
	} {
		a, b := impl.ReadQuantity(same[0], same[1]), impl.ReadQuantity(same[2], same[3])
		if a.Code != impl.OK || a != b {
			t.Errorf("%v: %v and %v", same, a, b)
		}
	}
	rate, time := impl.ReadQuantity("8", "MHz").Quantity, impl.ReadQuantity("125", "ns").Quantity
	holdReckoned(t, rate, '*', time, toldQuantity(frac(1, 1), 0, 0, 0))
}
