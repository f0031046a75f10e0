package tests

import (
	"fmt"
	"strings"
	"testing"

	"loop.example/g00049/impl"
)

// holdSet has a line set a name, and say the quantity.
func holdSet(t *testing.T, b impl.Bench, line string, set impl.Setting) {
	t.Helper()
	say := set.Name + " = " + tellByWords(set.Quantity)
	holdSaid(t, b, line, say, func(b *impl.Bench) {
		for i := range b.Settings {
			if b.Settings[i].Name == set.Name {
				b.Settings[i] = set
				return
			}
		}
		b.Settings = append(b.Settings, set)
	})
}

// TestStepOfSetByEachUnit: a name that is new, and one that is there already.
func TestStepOfSetByEachUnit(t *testing.T) {
	for unit := range scalesOf() {
		for _, number := range []string{"1", "0", "-3/4", "2.50", "1000", "-0", "007"} {
			told := quantityReadByWords(number, unit)
			for _, name := range []string{"a", "w", "Far-2", "nil", "W", "n0"} {
				line := fmt.Sprint("set ", name, " ", number, " ", unit)
				if told.Code != impl.OK {
					holdRefused(t, squareBench(), told.Code, line)
					continue
				}
				set := impl.Setting{Name: name, Quantity: told.Quantity}
				holdSet(t, squareBench(), line, set)
				holdSet(t, impl.Bench{}, line, set)
				holdSet(t, benchOf(impl.Net{}, nil, nil, manySettings(49)...), line, set)
			}
		}
	}
	holdSet(t, squareBench(), "set w 5 mm", settingOf("w", frac(1, 200), 1, 0, 0))
	holdSet(t, squareBench(), "  set   x-1   2.5   kHz ", settingOf("x-1", frac(2500, 1), 0, -1, 0))
	holdSet(t, squareBench(), "set nil 1 1", settingOf("nil", frac(1, 1), 0, 0, 0))
	holdSet(t, squareBench(), "set set 1 uW", settingOf("set", frac(1, 1000000), 0, 0, 1))
	holdSet(t, squareBench(), "set x 1/1 1", settingOf("x", frac(1, 1), 0, 0, 0))
}

// TestStepOfSetRefused: the codes of ReadQuantity; its ErrText is that of a line that is none.
func TestStepOfSetRefused(t *testing.T) {
	for _, b := range []impl.Bench{{}, squareBench(), benchOf(impl.Net{}, nil, nil, manySettings(50)...)} {
		for _, name := range []string{"w", "n1", "new"} {
			set := "set " + name + " "
			holdRefused(t, b, impl.ErrZero, set+"1/0 m", set+"0/0 1", set+"1/0 Mm", set+"-3/00 no")
			holdRefused(t, b, impl.ErrRange, set+"1000000001 m", set+"1000001 km", set+"1/2 nm", set+"0.5 ns", set+"1001 MHz", set+"1/1001 uW", set+"0000000000000000001 m", set+"1000000001 Mm", set+"1/10000000000 x")
			holdRefused(t, b, impl.ErrText, set+"x m", set+"1. m", set+".5 m", set+"+1 m", set+"1e3 m", set+"1/-2 m", set+"m 1", set+"# m", set+"1m 1", set+"x Mm", set+"-- --", set+"1\t m", set+"1 m\t")
			for _, unit := range noUnits() {
				if strings.Trim(unit, " \n") == unit && !strings.ContainsAny(unit, " \n") && unit != "" {
					holdRefused(t, b, impl.ErrText, set+"1 "+unit, set+"0 "+unit)
				}
			}
		}
		long := "set w " + strings.Repeat("1", 4000)
		holdRefused(t, b, impl.ErrMany, long+"1 m", long+"1 Mm")
		holdRefused(t, b, impl.ErrRange, long+" m", long+" Mm")
	}
}

// TestStepOfTheFiftiethSetting: one that is there may be set anew, one more may not; a code of its own is told ahead of that.
func TestStepOfTheFiftiethSetting(t *testing.T) {
	for _, n := range []impl.Net{{}, squareNet()} {
		all, but := benchOf(n, nil, nil, manySettings(50)...), benchOf(n, nil, nil, manySettings(49)...)
		holdSet(t, but, "set new 3 m", settingOf("new", frac(3, 1), 1, 0, 0))
		holdSet(t, but, "sum new n1 n2", settingOf("new", frac(3, 1), 0, 0, 0))
		holdSet(t, but, "product new n3 n2", settingOf("new", frac(6, 1), 0, 0, 0))
		holdSet(t, but, "quotient new n3 n2", settingOf("new", frac(3, 2), 0, 0, 0))
		holdRefused(t, all, impl.ErrMany, "set new 3 m", "set N0 1 1", "sum new n1 n2", "product new n3 n2", "quotient new n3 n2", "sum n50 n49 n49")
		holdRefused(t, all, impl.ErrRange, "set new 1000001 km")
		holdRefused(t, all, impl.ErrZero, "set new 1/0 m", "quotient new n1 n0")
		holdRefused(t, all, impl.ErrText, "set new 3 Mm", "set 3 3 m")
		holdRefused(t, all, impl.ErrNone, "sum new n1 n50", "product new new n1", "quotient n1 n2 new")
		for _, at := range []int{0, 1, 25, 48, 49} {
			name := fmt.Sprint("n", at)
			holdSet(t, all, "set "+name+" 3 m", settingOf(name, frac(3, 1), 1, 0, 0))
			holdSet(t, all, "sum "+name+" n1 n2", settingOf(name, frac(3, 1), 0, 0, 0))
			holdSet(t, all, "quotient "+name+" n49 n48", settingOf(name, frac(49, 48), 0, 0, 0))
		}
	}
}

func TestStepOfSumProductQuotient(t *testing.T) {
	b := benchOf(squareNet(), guardedLits(), twoGuards(), settingOf("a", frac(3, 4), 1, 0, 0), settingOf("b", frac(1, 2), 1, 0, 0), settingOf("c", frac(-5, 1), 0, 1, 0), settingOf("z", frac(0, 1), 1, 0, 0))
	holdSet(t, b, "sum s a b", settingOf("s", frac(5, 4), 1, 0, 0))
	holdSet(t, b, "sum a a b", settingOf("a", frac(5, 4), 1, 0, 0))
	holdSet(t, b, "sum b a b", settingOf("b", frac(5, 4), 1, 0, 0))
	holdSet(t, b, "sum c a z", settingOf("c", frac(3, 4), 1, 0, 0))
	holdSet(t, b, "sum c c c", settingOf("c", frac(-10, 1), 0, 1, 0))
	holdSet(t, b, "product p a b", settingOf("p", frac(3, 8), 2, 0, 0))
	holdSet(t, b, "product z a c", settingOf("z", frac(-15, 4), 1, 1, 0))
	holdSet(t, b, "product c c z", settingOf("c", frac(0, 1), 1, 1, 0))
	holdSet(t, b, "quotient q a b", settingOf("q", frac(3, 2), 0, 0, 0))
	holdSet(t, b, "quotient q b a", settingOf("q", frac(2, 3), 0, 0, 0))
	holdSet(t, b, "quotient a a c", settingOf("a", frac(-3, 20), 1, -1, 0))
	holdSet(t, b, "quotient c c a", settingOf("c", frac(-20, 3), -1, 1, 0))
	holdSet(t, b, "  quotient  q  z  a  ", settingOf("q", frac(0, 1), 0, 0, 0))
	holdRefused(t, b, impl.ErrForm, "sum s a c", "sum a c b", "sum c c z")
	holdRefused(t, b, impl.ErrZero, "quotient q a z", "quotient z z z", "quotient q c z")
	holdRefused(t, b, impl.ErrNone, "sum s a s", "sum s s a", "sum s s s", "product a a A", "product a B b", "quotient q q z", "quotient z q z", "sum d c e", "sum a net show")
	holdRefused(t, b, impl.ErrText, "sum s a 1", "sum 1 a b", "product s a -b", "quotient s 1 1", "sum s z 0")
}

// TestStepOfReckonedBounds: the codes of a number that leaves its bounds, and of an exponent.
func TestStepOfReckonedBounds(t *testing.T) {
	b := benchOf(impl.Net{}, nil, nil, settingOf("big", frac(1000000000, 1), 0, 0, 0), settingOf("one", frac(1, 1), 0, 0, 0), settingOf("most", frac(1, 1), 9, 0, -9), settingOf("m", frac(2, 1), 1, 0, 0), settingOf("W", frac(1, 2), 0, 0, 1))
	holdRefused(t, b, impl.ErrRange, "sum s big one", "sum s big big", "product s big big", "product one most m", "quotient s most W", "product big most most")
	holdSet(t, b, "quotient s most m", settingOf("s", frac(1, 2), 8, 0, -9))
	holdSet(t, b, "product most most W", settingOf("most", frac(1, 2), 9, 0, -8))
	holdSet(t, b, "quotient s big big", settingOf("s", frac(1, 1), 0, 0, 0))
	holdSet(t, b, "quotient W most most", settingOf("W", frac(1, 1), 0, 0, 0))
}

// TestStepsOfNamesWithoutANet: settings need no net, and leave the net's lists alone.
func TestStepsOfNamesWithoutANet(t *testing.T) {
	for _, b := range withoutNet()[:2] {
		for _, line := range []string{"set a 1 m", "sum a w w", "product w w w", "quotient a w w", "set nil 2 s"} {
			want := holdStepByWords(t, b, line)
			if (want.Code == impl.OK) != (len(b.Settings) > 0 || strings.HasPrefix(line, "set")) {
				t.Errorf("%q has code %d", line, want.Code)
			}
		}
	}
}

func TestStepsOfNamesByWords(t *testing.T) {
	draw := numbers{state: 2410}
	names := []string{"a", "b", "c", "n0", "n1", "n2"}
	units := []string{"m", "mm", "um", "nm", "km", "s", "ms", "us", "ns", "W", "mW", "uW", "Hz", "kHz", "MHz", "1", "1", "m", "s", "x"}
	codes := map[int64]int{}
	for range 60 {
		b := benchOf(impl.Net{}, nil, nil, manySettings(int(46+draw.below(5)))...)
		for range 60 {
			name := func() string { return names[draw.below(int64(len(names)))] }
			number := fmt.Sprintf("%d/%d", draw.below(40)-15, 1+draw.below(9)-draw.below(12)/10)
			line := fmt.Sprint("set ", name(), " ", number, " ", units[draw.below(int64(len(units)))])
			if by := draw.below(6); by > 1 {
				line = []string{"sum", "product", "quotient", "quotient"}[by-2] + " " + name() + " " + name() + " " + name()
			}
			want := holdStepByWords(t, b, line)
			codes[want.Code]++
			if want.Code == impl.OK {
				b = want.Bench
			}
		}
	}
	for _, code := range []int64{impl.OK, impl.ErrForm, impl.ErrMany, impl.ErrRange, impl.ErrNone, impl.ErrText, impl.ErrZero} {
		if codes[code] < 20 {
			t.Errorf("codes told: %v", codes)
		}
	}
}
