package tests

import (
	"fmt"
	"math"
	"math/big"
	"testing"

	"loop.example/g00049/impl"
)

func quantityOf(value impl.Frac, metre int64, second int64, watt int64) impl.Quantity {
	return impl.Quantity{Value: value, Metre: metre, Second: second, Watt: watt}
}

func noQuantity(code int64) impl.QuantityResult {
	return impl.QuantityResult{Code: code}
}

func toldQuantity(value impl.Frac, metre int64, second int64, watt int64) impl.QuantityResult {
	return impl.QuantityResult{Quantity: quantityOf(value, metre, second, watt)}
}

func isFracByWords(f impl.Frac) bool {
	const m = impl.MaxNum
	if f.Den < 1 || f.Den > m || f.Num < -m || f.Num > m {
		return false
	}
	return new(big.Int).GCD(nil, nil, new(big.Int).Abs(big.NewInt(f.Num)), big.NewInt(f.Den)).Int64() == 1
}

func quantityCodeByWords(q impl.Quantity) int64 {
	for _, exponent := range []int64{q.Metre, q.Second, q.Watt} {
		if exponent < -9 || exponent > 9 {
			return impl.ErrForm
		}
	}
	if !isFracByWords(q.Value) {
		return impl.ErrForm
	}
	return impl.OK
}

// scaleOf is what a unit stands for: its number, and its exponents.
type scaleOf struct {
	number string
	metre  int64
	second int64
	watt   int64
}

func scalesOf() map[string]scaleOf {
	return map[string]scaleOf{
		"m": {"1", 1, 0, 0}, "mm": {"0.001", 1, 0, 0}, "um": {"0.000001", 1, 0, 0}, "nm": {"0.000000001", 1, 0, 0}, "km": {"1000", 1, 0, 0},
		"s": {"1", 0, 1, 0}, "ms": {"0.001", 0, 1, 0}, "us": {"0.000001", 0, 1, 0}, "ns": {"0.000000001", 0, 1, 0},
		"W": {"1", 0, 0, 1}, "mW": {"0.001", 0, 0, 1}, "uW": {"0.000001", 0, 0, 1},
		"Hz": {"1", 0, -1, 0}, "kHz": {"1000", 0, -1, 0}, "MHz": {"1000000", 0, -1, 0},
		"1": {"1", 0, 0, 0},
	}
}

// noUnits are words near those of the units.
func noUnits() []string {
	return []string{
		"", " ", " m", "m ", "m\n", "m\x00", "M", "MM", "Mm", "mM", "kM", "Km", "KM", "pm", "cm", "dm", "Nm", "µm", "m^1", "m^2", "metre", "m m", "mmm",
		"S", "Ms", "ks", "ps", "US", "Us", "ss", "s^-1", "w", "kW", "KW", "MW", "nW", "mw", "uw", "WW", "hz", "HZ", "hZ", "H", "z", "mHz", "uHz", "GHz",
		"khz", "KHz", "kHZ", "Mhz", "MHZ", "01", "1.0", "1/1", "0", "2", "11", "-1", "+1", "k", "u", "n", "um1", "1m", "mum", "\xb5m", "set", "#",
	}
}

// quantityReadByWords reckons without bounds, and asks at the end.
func quantityReadByWords(number string, unit string) impl.QuantityResult {
	read := readSlowly(number)
	if read.Code != impl.OK {
		return noQuantity(read.Code)
	}
	scale, has := scalesOf()[unit]
	if !has {
		return noQuantity(impl.ErrText)
	}
	by, _ := new(big.Rat).SetString(scale.number)
	told := toldOf(by.Mul(by, ratOf(read.Frac)))
	if told.Code != impl.OK {
		return noQuantity(told.Code)
	}
	return toldQuantity(told.Frac, scale.metre, scale.second, scale.watt)
}

func holdReadQuantity(t *testing.T, number string, unit string, want impl.QuantityResult) {
	t.Helper()
	for range 2 {
		if got := impl.ReadQuantity(number, unit); got != want {
			t.Errorf("ReadQuantity(%q, %q) = %v, want %v", brief(number), unit, got, want)
		}
	}
	if told := quantityReadByWords(number, unit); told != want {
		t.Errorf("%q, %q: the words tell %v, not %v", brief(number), unit, told, want)
	}
}

func holdQuantityFault(t *testing.T, q impl.Quantity, want int64) {
	t.Helper()
	if got := impl.QuantityFault(q); got != want {
		t.Errorf("QuantityFault(%v) = %d, want %d", q, got, want)
	}
	if told := quantityCodeByWords(q); told != want {
		t.Errorf("%v: the words tell %d, not %d", q, told, want)
	}
}

func TestBenchConstants(t *testing.T) {
	if impl.MaxNames != 50 || impl.MaxLines != 400 {
		t.Error("a constant is another one")
	}
}

func TestQuantityFaultOfValues(t *testing.T) {
	for _, f := range rightFracs() {
		holdQuantityFault(t, quantityOf(f, 0, 0, 0), impl.OK)
		holdQuantityFault(t, quantityOf(f, 1, -9, 9), impl.OK)
		holdQuantityFault(t, quantityOf(f, 10, 0, 0), impl.ErrForm)
	}
	for _, f := range wrongFracs() {
		holdQuantityFault(t, quantityOf(f, 0, 0, 0), impl.ErrForm)
		holdQuantityFault(t, quantityOf(f, 1, -9, 9), impl.ErrForm)
		holdQuantityFault(t, quantityOf(f, 0, 0, 10), impl.ErrForm)
	}
}

func TestQuantityFaultOfExponents(t *testing.T) {
	const most, least = math.MaxInt64, math.MinInt64
	for exponent := int64(-9); exponent <= 9; exponent++ {
		for other := int64(-9); other <= 9; other++ {
			holdQuantityFault(t, quantityOf(frac(-3, 7), exponent, other, -exponent), impl.OK)
		}
	}
	for _, wrong := range []int64{-10, 10, -11, 11, 256, 1 << 32, 1<<32 + 9, -1 << 32, most, least, most - 1, least + 1, least + 9} {
		for _, other := range []int64{-9, 0, 9, wrong} {
			holdQuantityFault(t, quantityOf(frac(0, 1), wrong, other, other), impl.ErrForm)
			holdQuantityFault(t, quantityOf(frac(0, 1), other, wrong, other), impl.ErrForm)
			holdQuantityFault(t, quantityOf(frac(0, 1), other, other, wrong), impl.ErrForm)
		}
	}
}

// TestReadQuantityOfEachUnit: one, none, a part and many of each unit.
func TestReadQuantityOfEachUnit(t *testing.T) {
	for unit, scale := range scalesOf() {
		for _, number := range []string{"1", "0", "-1", "007", "2.50", "-6/4", "-0.0", "22/7", "1000", "1/1000", "1000000", "1000001", "1000000000", "1/1000000000"} {
			holdReadQuantity(t, number, unit, quantityReadByWords(number, unit))
		}
		if got := impl.ReadQuantity("3", unit); got.Code != impl.OK || got.Quantity.Metre != scale.metre || got.Quantity.Second != scale.second || got.Quantity.Watt != scale.watt {
			t.Errorf("3 %s: %v", unit, got)
		}
	}
	holdReadQuantity(t, "3", "mm", toldQuantity(frac(3, 1000), 1, 0, 0))
	holdReadQuantity(t, "-1.5", "um", toldQuantity(frac(-3, 2000000), 1, 0, 0))
	holdReadQuantity(t, "1550", "nm", toldQuantity(frac(31, 20000000), 1, 0, 0))
	holdReadQuantity(t, "7/2", "km", toldQuantity(frac(3500, 1), 1, 0, 0))
	holdReadQuantity(t, "5", "m", toldQuantity(frac(5, 1), 1, 0, 0))
	holdReadQuantity(t, "5", "s", toldQuantity(frac(5, 1), 0, 1, 0))
	holdReadQuantity(t, "25", "ms", toldQuantity(frac(1, 40), 0, 1, 0))
	holdReadQuantity(t, "25", "us", toldQuantity(frac(1, 40000), 0, 1, 0))
	holdReadQuantity(t, "25", "ns", toldQuantity(frac(1, 40000000), 0, 1, 0))
	holdReadQuantity(t, "0.5", "W", toldQuantity(frac(1, 2), 0, 0, 1))
	holdReadQuantity(t, "0.5", "mW", toldQuantity(frac(1, 2000), 0, 0, 1))
	holdReadQuantity(t, "0.5", "uW", toldQuantity(frac(1, 2000000), 0, 0, 1))
	holdReadQuantity(t, "50", "Hz", toldQuantity(frac(50, 1), 0, -1, 0))
	holdReadQuantity(t, "50", "kHz", toldQuantity(frac(50000, 1), 0, -1, 0))
	holdReadQuantity(t, "50", "MHz", toldQuantity(frac(50000000, 1), 0, -1, 0))
	holdReadQuantity(t, "-2/3", "1", toldQuantity(frac(-2, 3), 0, 0, 0))
}

func TestReadQuantityOfNoUnit(t *testing.T) {
	for _, unit := range noUnits() {
		for _, number := range []string{"1", "0", "-22/7", "0.000000001", "1000000000"} {
			holdReadQuantity(t, number, unit, noQuantity(impl.ErrText))
		}
	}
}

// TestReadQuantityOfNoNumber: each code of ParseFrac is told ahead of the unit.
func TestReadQuantityOfNoNumber(t *testing.T) {
	wrong := map[string]int64{
		"": impl.ErrText, "-": impl.ErrText, "1.": impl.ErrText, ".5": impl.ErrText, "+1": impl.ErrText, "1e3": impl.ErrText, "1 ": impl.ErrText,
		" 1": impl.ErrText, "1/": impl.ErrText, "1/-2": impl.ErrText, "m": impl.ErrText, "1\n": impl.ErrText, "\xff": impl.ErrText,
		"1/0": impl.ErrZero, "0/0": impl.ErrZero, "-5/000": impl.ErrZero,
		"1000000001": impl.ErrRange, "1/1000000001": impl.ErrRange, "0.0000000001": impl.ErrRange, "0000000000000000001": impl.ErrRange,
		"1/0000000000000000000": impl.ErrRange, "0.000000000000000000": impl.ErrRange, "1234567890/7": impl.ErrRange,
		string(make([]byte, 4001)): impl.ErrMany, string(make([]byte, 4000)): impl.ErrText,
	}
	for number, code := range wrong {
		for unit := range scalesOf() {
			holdReadQuantity(t, number, unit, noQuantity(code))
		}
		for _, unit := range noUnits() {
			holdReadQuantity(t, number, unit, noQuantity(code))
		}
	}
}

// TestReadQuantityAtTheBounds: products at the bounds of fractions, and one beyond.
func TestReadQuantityAtTheBounds(t *testing.T) {
	for _, within := range [][2]string{
		{"1000000", "km"}, {"-1000000", "km"}, {"999999999/1000", "km"}, {"1/1000", "km"}, {"1000000000/1000000000", "nm"}, {"-1", "nm"}, {"1000000000", "nm"},
		{"1/1000", "um"}, {"999/1000", "um"}, {"2/1001", "um"}, {"1/1000000", "mm"}, {"999999999/1000000", "mm"}, {"1000", "MHz"}, {"-1000", "MHz"},
		{"999999999/1000000", "MHz"}, {"1000000000", "1"}, {"1/1000000000", "m"}, {"999999/1", "kHz"},
	} {
		want := quantityReadByWords(within[0], within[1])
		if want.Code != impl.OK {
			t.Errorf("%v: the words tell %d", within, want.Code)
		}
		holdReadQuantity(t, within[0], within[1], want)
	}
	for _, beyond := range [][2]string{
		{"1000001", "km"}, {"-1000001", "km"}, {"2000001/2", "km"}, {"1000000000", "km"}, {"1/2", "nm"}, {"1/1000000000", "nm"}, {"3/7", "nm"}, {"1/1001", "um"},
		{"1/1001", "us"}, {"1/2", "ns"}, {"1/1001", "uW"}, {"1/1000001", "mm"}, {"1/1000001", "ms"}, {"1/1000001", "mW"}, {"1001", "MHz"}, {"-1001", "MHz"}, {"1000001", "kHz"},
	} {
		holdReadQuantity(t, beyond[0], beyond[1], noQuantity(impl.ErrRange))
	}
}

func TestReadQuantityByWords(t *testing.T) {
	draw := numbers{state: 2400}
	units := noUnits()
	for _, unit := range []string{"m", "mm", "um", "nm", "km", "s", "ms", "us", "ns", "W", "mW", "uW", "Hz", "kHz", "MHz", "1"} {
		units = append(units, unit, unit, unit, unit)
	}
	codes := map[int64]int{}
	for range 6000 {
		number := fmt.Sprint(draw.below(1 << draw.below(32)))
		switch draw.below(4) {
		case 0:
			number += "/" + fmt.Sprint(draw.below(1<<draw.below(32)))
		case 1:
			number = "-" + number + "." + fmt.Sprint(draw.below(1<<draw.below(20)))
		case 2:
			number = "-" + number
		}
		unit := units[draw.below(int64(len(units)))]
		want := quantityReadByWords(number, unit)
		codes[want.Code]++
		holdReadQuantity(t, number, unit, want)
	}
	if codes[impl.OK] < 500 || codes[impl.ErrRange] < 500 || codes[impl.ErrText] < 500 || codes[impl.ErrZero] < 5 {
		t.Errorf("codes told: %v", codes)
	}
}
