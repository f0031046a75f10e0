package tests

import (
	"fmt"
	"math"
	"regexp"
	"slices"
	"strings"
	"testing"

	"loop.example/g00049/impl"
)

// nameByWords is a name of chapter 5.
const nameByWords = `[A-Za-z][A-Za-z0-9-]{0,19}`

var wholeName = regexp.MustCompile(`\A` + nameByWords + `\z`)

// benchArgs are what a call is given of a bench.
type benchArgs struct {
	bench impl.Bench
}

func (a benchArgs) ofNet() netArgs {
	return netArgs{net: a.bench.Net, lits: a.bench.Lits, guards: a.bench.Guards}
}

func (a benchArgs) withRoom() benchArgs {
	n := a.ofNet().withRoom()
	return benchArgs{impl.Bench{Net: n.net, Lits: n.lits, Guards: n.guards, Settings: roomy(a.bench.Settings, settingOf("room", frac(9, 7), 1, 1, 1))}}
}

func (a benchArgs) picture() string {
	return a.ofNet().picture() + fmt.Sprint(a.bench.Settings[:cap(a.bench.Settings)])
}

func spoilBench(t *testing.T, b impl.Bench) {
	t.Helper()
	holdOwnLists(t, pathsOf(b.Lits))
	spoilAll(b.Lits, impl.Lit{Id: -7, First: -7})
	spoilAll(b.Guards, guardOf(-7, -7))
	spoilAll(b.Net.Fibres, fibreOf(-7, -7, -7))
	spoilAll(b.Settings, impl.Setting{Name: "-7"})
}

func settingOf(name string, value impl.Frac, metre int64, second int64, watt int64) impl.Setting {
	return impl.Setting{Name: name, Quantity: quantityOf(value, metre, second, watt)}
}

func benchOf(n impl.Net, lits []impl.Lit, guards []impl.Guard, settings ...impl.Setting) impl.Bench {
	return impl.Bench{Net: n, Lits: lits, Guards: guards, Settings: settings}
}

// copyOfBench shares no list with the bench.
func copyOfBench(b impl.Bench) impl.Bench {
	b.Net.Fibres = slices.Clone(b.Net.Fibres)
	b.Lits = copyOfLits(b.Lits)
	b.Guards = slices.Clone(b.Guards)
	b.Settings = slices.Clone(b.Settings)
	return b
}

func changedBench(b impl.Bench, change func(*impl.Bench)) impl.Bench {
	b = copyOfBench(b)
	change(&b)
	return b
}

// threeSettings are a length, a time that is 0, and what no unit of the document is for.
func threeSettings() []impl.Setting {
	return []impl.Setting{settingOf("w", frac(3, 1000), 1, 0, 0), settingOf("nil", frac(0, 1), 0, 1, 0), settingOf("Far-2", frac(-7, 2), 9, -9, 2)}
}

// squareBench has the square net with its guarded lights, and settings.
func squareBench() impl.Bench {
	return benchOf(squareNet(), guardedLits(), twoGuards(), threeSettings()...)
}

// manySettings are so many numbers without a unit.
func manySettings(count int) []impl.Setting {
	list := []impl.Setting{}
	for i := range count {
		list = append(list, settingOf(fmt.Sprint("n", i), frac(int64(i), 1), 0, 0, 0))
	}
	return list
}

func isNetless(b impl.Bench) bool {
	return b.Net.Nodes == 0 && b.Net.Slots == 0 && len(b.Net.Fibres)+len(b.Lits)+len(b.Guards) == 0
}

func benchCodeByWords(b impl.Bench) int64 {
	if code := guardsCodeByWords(b.Net, b.Lits, b.Guards); code != impl.OK && !isNetless(b) {
		return code
	}
	if len(b.Settings) > 50 {
		return impl.ErrMany
	}
	ahead := []string{}
	for _, s := range b.Settings {
		if !wholeName.MatchString(s.Name) || slices.Contains(ahead, s.Name) || quantityCodeByWords(s.Quantity) != impl.OK {
			return impl.ErrForm
		}
		ahead = append(ahead, s.Name)
	}
	return impl.OK
}

func holdBenchFault(t *testing.T, what string, b impl.Bench, want int64) {
	t.Helper()
	holdCall(t, what+", BenchFault", benchArgs{b}, func(a benchArgs) int64 { return impl.BenchFault(a.bench) }, want)
	if told := benchCodeByWords(b); told != want {
		t.Errorf("%s: the words tell %d of %s, not %d", what, told, brief(b), want)
	}
}

// partialBenches have no nodes, but something else of a net.
func partialBenches() map[string]impl.Bench {
	return map[string]impl.Bench{
		"slots":          {Net: netOf(0, 1)},
		"many slots":     {Net: netOf(0, 65)},
		"slots below 0":  {Net: netOf(0, -1)},
		"a fibre":        {Net: netOf(0, 0, fibreOf(0, 1, 1))},
		"an empty fibre": {Net: netOf(0, 0, fibreOf(0, 0, 0))},
		"a light":        {Lits: []impl.Lit{litOf(1, 0, 1, 0, 1, 0)}},
		"an empty light": {Lits: make([]impl.Lit, 1)},
		"a guard":        {Guards: []impl.Guard{guardOf(1, 2)}},
		"an empty guard": {Guards: make([]impl.Guard, 1)},
		"many lights":    {Lits: make([]impl.Lit, 41)},
		"many guards":    {Guards: make([]impl.Guard, 21)},
		"nodes below 0":  {Net: netOf(-1, 0)},
		"one node":       {Net: netOf(1, 0)},
		"many nodes":     {Net: netOf(9, 0)},
		"many fibres":    {Net: netOf(0, 0, make([]impl.Fibre, 15)...)},
	}
}

// wrongBenches have a fault each, of every kind.
func wrongBenches() map[string]impl.Bench {
	all := partialBenches()
	for what, n := range wrongNets() {
		all["net, "+what] = benchOf(n, nil, nil, threeSettings()...)
	}
	for what, lits := range wrongLits() {
		all["lights, "+what] = benchOf(squareNet(), lits, nil, threeSettings()...)
	}
	for what, guards := range wrongGuards() {
		all["guards, "+what] = benchOf(squareNet(), guardedLits(), guards, threeSettings()...)
	}
	all["51 settings"] = benchOf(squareNet(), guardedLits(), twoGuards(), manySettings(51)...)
	all["a name twice"] = benchOf(squareNet(), guardedLits(), twoGuards(), append(threeSettings(), threeSettings()[1])...)
	all["no name"] = benchOf(squareNet(), guardedLits(), twoGuards(), append(threeSettings(), settingOf("", frac(1, 1), 0, 0, 0))...)
	all["an exponent"] = benchOf(squareNet(), guardedLits(), twoGuards(), append(threeSettings(), settingOf("a", frac(1, 1), 0, 10, 0))...)
	all["no net and a value"] = benchOf(impl.Net{}, nil, nil, settingOf("a", frac(2, 2), 0, 0, 0))
	return all
}

func TestBenchFaultTold(t *testing.T) {
	holdBenchFault(t, "nothing", impl.Bench{}, impl.OK)
	holdBenchFault(t, "empty lists", impl.Bench{Net: netOf(0, 0), Lits: []impl.Lit{}, Guards: []impl.Guard{}, Settings: []impl.Setting{}}, impl.OK)
	holdBenchFault(t, "settings alone", benchOf(impl.Net{}, nil, nil, threeSettings()...), impl.OK)
	holdBenchFault(t, "the square", squareBench(), impl.OK)
	holdBenchFault(t, "no settings", benchOf(squareNet(), guardedLits(), twoGuards()), impl.OK)
	holdBenchFault(t, "no guards", benchOf(squareNet(), guardedLits(), nil, threeSettings()...), impl.OK)
	holdBenchFault(t, "no lights", benchOf(squareNet(), nil, nil, threeSettings()...), impl.OK)
	holdBenchFault(t, "no fibres", benchOf(netOf(1, 1), nil, nil), impl.OK)
	lits, guards := thinGuarded(20)
	holdBenchFault(t, "all that may be", benchOf(triangleNet(64), lits, guards, manySettings(50)...), impl.OK)
}

// TestBenchFaultWithoutANet: one field of a net is enough to have its code told.
func TestBenchFaultWithoutANet(t *testing.T) {
	codes := map[string]int64{"many nodes": impl.ErrMany, "many fibres": impl.ErrMany}
	for what, b := range partialBenches() {
		want := int64(impl.ErrForm)
		if code, other := codes[what]; other {
			want = code
		}
		holdBenchFault(t, what, b, want)
		b.Settings = threeSettings()
		holdBenchFault(t, what+", with settings", b, want)
		b.Settings = manySettings(51)
		holdBenchFault(t, what+", with many settings", b, want)
	}
}

// TestBenchFaultOfTheNet: the codes of net, lights and guards, ahead of all that is wrong with settings.
func TestBenchFaultOfTheNet(t *testing.T) {
	lists := [][]impl.Setting{nil, threeSettings(), manySettings(50), manySettings(51), make([]impl.Setting, 1), make([]impl.Setting, 51)}
	for _, settings := range lists {
		for what, n := range wrongNets() {
			holdBenchFault(t, what, benchOf(n, nil, nil, settings...), netCodeByWords(n))
			holdBenchFault(t, what, benchOf(n, thinLits(41), make([]impl.Guard, 21), settings...), netCodeByWords(n))
		}
		for what, lits := range wrongLits() {
			holdBenchFault(t, what, benchOf(squareNet(), lits, nil, settings...), litsCodeByWords(squareNet(), lits))
			holdBenchFault(t, what, benchOf(squareNet(), lits, make([]impl.Guard, 21), settings...), litsCodeByWords(squareNet(), lits))
		}
		for what, guards := range wrongGuards() {
			holdBenchFault(t, what, benchOf(squareNet(), guardedLits(), guards, settings...), guardsCodeByWords(squareNet(), guardedLits(), guards))
		}
	}
	told := map[int64]int{}
	for _, b := range wrongBenches() {
		told[benchCodeByWords(b)]++
	}
	for _, code := range []int64{impl.ErrForm, impl.ErrMany, impl.ErrRange, impl.ErrNone, impl.ErrTaken} {
		if told[code] == 0 || told[impl.OK] > 0 {
			t.Errorf("codes told: %v", told)
		}
	}
}

func TestBenchFaultOfManySettings(t *testing.T) {
	for _, n := range []impl.Net{{}, squareNet()} {
		for _, count := range []int{1, 2, 49, 50} {
			holdBenchFault(t, "settings", benchOf(n, nil, nil, manySettings(count)...), impl.OK)
		}
		for _, count := range []int{51, 52, 100, 1000} {
			holdBenchFault(t, "too many", benchOf(n, nil, nil, manySettings(count)...), impl.ErrMany)
			holdBenchFault(t, "too many empty ones", benchOf(n, nil, nil, make([]impl.Setting, count)...), impl.ErrMany)
		}
		for at := range 51 {
			wrong := manySettings(51)
			wrong[at].Name = "-"
			holdBenchFault(t, "one wrong", benchOf(n, nil, nil, wrong...), impl.ErrMany)
			if at < 50 {
				holdBenchFault(t, "one wrong", benchOf(n, nil, nil, wrong[:50]...), impl.ErrForm)
			}
		}
	}
}

// TestBenchFaultOfNames: each name first, between others and last.
func TestBenchFaultOfNames(t *testing.T) {
	hold := func(name string, want int64) {
		for at := range 4 {
			list := slices.Insert(threeSettings(), at, settingOf(name, frac(1, 2), 0, 0, 1))
			holdBenchFault(t, "a name", benchOf(impl.Net{}, nil, nil, list...), want)
		}
		holdBenchFault(t, "a name alone", benchOf(squareNet(), nil, nil, settingOf(name, frac(1, 2), 0, 0, 1)), want)
	}
	for _, name := range rightNames() {
		hold(name, impl.OK)
	}
	for _, name := range append(wrongNames(), "", " ", "A ", " A", "A B", "A\n", "\n", "#", "#A", "=", "1") {
		hold(name, impl.ErrForm)
	}
}

func TestBenchFaultOfANameTwice(t *testing.T) {
	for i := range 50 {
		for _, j := range []int{0, i / 2, i - 1, (i + 1) % 50, 49} {
			if j == i || j < 0 {
				continue
			}
			list := manySettings(50)
			list[i].Name = list[j].Name
			holdBenchFault(t, "a name twice", benchOf(impl.Net{}, nil, nil, list...), impl.ErrForm)
		}
	}
	twin := threeSettings()
	twin = append(twin, twin[0])
	holdBenchFault(t, "a setting twice", benchOf(impl.Net{}, nil, nil, twin...), impl.ErrForm)
	for _, near := range []string{"W", "ww", "w-", "Far-2a", "far-2", "Far-", "Nil", "ni"} {
		holdBenchFault(t, "near a name", benchOf(impl.Net{}, nil, nil, append(threeSettings(), settingOf(near, frac(1, 1), 0, 0, 0))...), impl.OK)
	}
	long := strings.Repeat("x", 19)
	holdBenchFault(t, "unlike at the end", benchOf(impl.Net{}, nil, nil, settingOf(long+"a", frac(1, 1), 0, 0, 0), settingOf(long+"b", frac(1, 1), 0, 0, 0)), impl.OK)
}

func TestBenchFaultOfQuantities(t *testing.T) {
	for _, n := range []impl.Net{{}, squareNet()} {
		for _, q := range wrongQuantities() {
			for at := range 3 {
				list := threeSettings()
				list[at].Quantity = q
				holdBenchFault(t, "a quantity", benchOf(n, nil, nil, list...), impl.ErrForm)
			}
		}
		for _, exponent := range []int64{-9, 0, 9} {
			for _, f := range rightFracs() {
				list := []impl.Setting{settingOf("a", f, exponent, 0, 9), settingOf("b", f, 9, exponent, -9), settingOf("c", f, -9, 9, exponent)}
				holdBenchFault(t, "a quantity", benchOf(n, nil, nil, list...), impl.OK)
			}
		}
		for _, exponent := range []int64{-10, 10, math.MaxInt64, math.MinInt64} {
			holdBenchFault(t, "Metre", benchOf(n, nil, nil, settingOf("a", frac(1, 1), exponent, 0, 0)), impl.ErrForm)
			holdBenchFault(t, "Second", benchOf(n, nil, nil, settingOf("a", frac(1, 1), 0, exponent, 0)), impl.ErrForm)
			holdBenchFault(t, "Watt", benchOf(n, nil, nil, settingOf("a", frac(1, 1), 0, 0, exponent)), impl.ErrForm)
		}
	}
}
