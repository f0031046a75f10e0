package tests

import (
	"math"
	"slices"
	"strconv"
	"testing"

	"loop.example/g00049/impl"
)

// coatedStack is a right one of three films, with room behind them.
func coatedStack() impl.Stack {
	films := []impl.Film{{Index: 1.38, Keep: 1, Thick: 100}, {Index: 2.1, Keep: 0.99, Thick: 250}, {Index: 1.7, Keep: 0.5, Thick: 77}, {Index: 9, Keep: 0.1, Thick: 9}, {Index: 8, Keep: 0.1, Thick: 8}}
	return impl.Stack{In: 1, Out: 1.52, Films: films[:3]}
}

// slantLight is a right one that goes together with coatedStack.
func slantLight() impl.Light {
	return impl.Light{Nm: 550, Side: 0.5, Pol: impl.PolP}
}

// likeFilms are so many films that are right.
func likeFilms(count int) []impl.Film {
	return slices.Repeat([]impl.Film{{Index: 1.5, Keep: 1, Thick: 10}}, count)
}

func sameFilm(a impl.Film, b impl.Film) bool {
	return sameFloat(a.Index, b.Index) && sameFloat(a.Keep, b.Keep) && a.Thick == b.Thick
}

func sameStack(a impl.Stack, b impl.Stack) bool {
	return sameFloat(a.In, b.In) && sameFloat(a.Out, b.Out) && slices.EqualFunc(a.Films, b.Films, sameFilm)
}

func copyOfStack(s impl.Stack) impl.Stack {
	s.Films = slices.Clone(s.Films)
	return s
}

// changedStack is a copy of the stack with something changed.
func changedStack(s impl.Stack, change func(*impl.Stack)) impl.Stack {
	s = copyOfStack(s)
	change(&s)
	return s
}

// leftAlone says whether a call leaves a stack's films as they were, the memory behind their end too.
func leftAlone(s impl.Stack, call func()) bool {
	whole := s.Films[:cap(s.Films)]
	kept := slices.Clone(whole)
	call()
	return slices.EqualFunc(whole, kept, sameFilm)
}

func holdStackFault(t *testing.T, what string, s impl.Stack, code int64) {
	t.Helper()
	got := int64(-1)
	if !leftAlone(s, func() { got = impl.StackFault(s) }) {
		t.Errorf("%s: the stack was changed", what)
	}
	if got != code {
		t.Errorf("%s: fault %d, want %d", what, got, code)
	}
}

func TestFilmBounds(t *testing.T) {
	if impl.PolS != 1 || impl.PolP != 2 || impl.MaxFilms != 40 || impl.MaxTargets != 16 {
		t.Error("the constants of chapter 6 are others")
	}
}

func TestFilmsOfAStack(t *testing.T) {
	holdStackFault(t, "three films", coatedStack(), impl.OK)
	holdStackFault(t, "nil", impl.Stack{In: 1, Out: 1.5}, impl.OK)
	for _, count := range []int{0, 1, 2, impl.MaxFilms - 1, impl.MaxFilms} {
		holdStackFault(t, strconv.Itoa(count)+" films", impl.Stack{In: 1, Out: 1, Films: likeFilms(count)}, impl.OK)
	}
	for _, count := range []int{impl.MaxFilms + 1, impl.MaxFilms + 2, 100000} {
		holdStackFault(t, strconv.Itoa(count)+" films", impl.Stack{In: 1, Out: 1, Films: likeFilms(count)}, impl.ErrMany)
	}
	holdStackFault(t, "the zero value", impl.Stack{}, impl.ErrRange)
}

// indexCases are floats, and whether one is an index.
func indexCases() map[float64]bool {
	cases := map[float64]bool{}
	for _, f := range []float64{1, 10, math.Nextafter(1, 2), math.Nextafter(10, 0), 1.5, 2, 4.25, 9.999} {
		cases[f] = true
	}
	for _, f := range []float64{math.Nextafter(1, 0), math.Nextafter(10, 11), 0, 0.5, 11, 5e-324, 100, -1, -1.5, -10, impl.LargestFloat, -impl.LargestFloat, math.Inf(1), math.Inf(-1), math.NaN()} {
		cases[f] = false
	}
	for _, bits := range bitsOfNaNs() {
		cases[math.Float64frombits(bits)] = false
	}
	return cases
}

// keepCases are floats, and whether one is a Keep.
func keepCases() map[float64]bool {
	cases := map[float64]bool{}
	for _, f := range []float64{1, math.Nextafter(1, 0), 0.5, 0.001, 1e-300, 5e-324} {
		cases[f] = true
	}
	for _, f := range []float64{0, math.Nextafter(1, 2), 1.5, 2, -5e-324, -0.5, -1, impl.LargestFloat, -impl.LargestFloat, math.Inf(1), math.Inf(-1), math.NaN()} {
		cases[f] = false
	}
	for _, bits := range bitsOfNaNs() {
		cases[math.Float64frombits(bits)] = false
	}
	return cases
}

// holdFloatCases puts each float where the change says, and the nought below 0, too.
func holdFloatCases(t *testing.T, what string, cases map[float64]bool, change func(*impl.Stack, float64)) {
	t.Helper()
	hold := func(f float64, right bool) {
		t.Helper()
		code := int64(impl.ErrRange)
		if right {
			code = impl.OK
		}
		holdStackFault(t, what+" "+strconv.FormatFloat(f, 'g', -1, 64), changedStack(coatedStack(), func(s *impl.Stack) { change(s, f) }), code)
	}
	for f, right := range cases {
		hold(f, right)
	}
	hold(math.Copysign(0, -1), false)
}

func TestNumbersOfAStack(t *testing.T) {
	holdFloatCases(t, "In", indexCases(), func(s *impl.Stack, f float64) { s.In = f })
	holdFloatCases(t, "Out", indexCases(), func(s *impl.Stack, f float64) { s.Out = f })
	for i := range 3 {
		of := " of film " + strconv.Itoa(i)
		holdFloatCases(t, "Index"+of, indexCases(), func(s *impl.Stack, f float64) { s.Films[i].Index = f })
		holdFloatCases(t, "Keep"+of, keepCases(), func(s *impl.Stack, f float64) { s.Films[i].Keep = f })
		for thick, code := range map[int64]int64{
			0: impl.OK, 1: impl.OK, 999999: impl.OK, 1000000: impl.OK,
			-1: impl.ErrRange, 1000001: impl.ErrRange, math.MinInt64: impl.ErrRange, math.MaxInt64: impl.ErrRange, 1 << 32: impl.ErrRange,
		} {
			holdStackFault(t, "Thick "+strconv.FormatInt(thick, 10)+of, changedStack(coatedStack(), func(s *impl.Stack) { s.Films[i].Thick = thick }), code)
		}
	}
	last := impl.Stack{In: 1, Out: 1, Films: likeFilms(impl.MaxFilms)}
	last.Films[impl.MaxFilms-1].Thick = -1
	holdStackFault(t, "the last of all films", last, impl.ErrRange)
}

func stackSpoilers() []func(*impl.Stack) {
	return []func(*impl.Stack){
		func(s *impl.Stack) { s.In = 0.5 },
		func(s *impl.Stack) { s.Out = math.NaN() },
		func(s *impl.Stack) { s.Films[0].Index = 11 },
		func(s *impl.Stack) { s.Films[1].Keep = 0 },
		func(s *impl.Stack) { s.Films[2].Thick = -1 },
	}
}

// That there are too many films is told ahead of what is wrong with any of them.
func TestFirstFaultOfAStack(t *testing.T) {
	many := coatedStack()
	many.Films = append(slices.Clone(many.Films), likeFilms(impl.MaxFilms-2)...)
	holdStackFault(t, "too many", many, impl.ErrMany)
	for i, first := range stackSpoilers() {
		for j, second := range stackSpoilers() {
			both := func(s *impl.Stack) { first(s); second(s) }
			what := "spoiled by " + strconv.Itoa(i) + " and " + strconv.Itoa(j)
			holdStackFault(t, what, changedStack(coatedStack(), both), impl.ErrRange)
			holdStackFault(t, what+", too many", changedStack(many, both), impl.ErrMany)
		}
	}
	many.Films[impl.MaxFilms].Keep = 2
	holdStackFault(t, "the one too many is wrong", many, impl.ErrMany)
}

func TestLightFault(t *testing.T) {
	hold := func(what string, w impl.Light, code int64) {
		t.Helper()
		if got := impl.LightFault(w); got != code {
			t.Errorf("%s, %v: fault %d, want %d", what, w, got, code)
		}
	}
	hold("the zero value", impl.Light{}, impl.ErrForm)
	for _, pol := range []int64{impl.PolS, impl.PolP} {
		for _, nm := range []int64{1, 2, 550, impl.MaxNm - 1, impl.MaxNm} {
			for _, side := range []float64{0, math.Copysign(0, -1), 5e-324, 0.5, math.Nextafter(1, 0)} {
				hold("right", impl.Light{Nm: nm, Side: side, Pol: pol}, impl.OK)
			}
		}
		for _, nm := range []int64{0, -1, -550, impl.MaxNm + 1, math.MinInt64, math.MaxInt64, 1<<32 + 550} {
			hold("Nm", impl.Light{Nm: nm, Pol: pol}, impl.ErrRange)
			hold("Nm and Side", impl.Light{Nm: nm, Side: 1, Pol: pol}, impl.ErrRange)
		}
		sides := []float64{1, math.Nextafter(1, 2), 2, -5e-324, -0.5, -1, impl.LargestFloat, -impl.LargestFloat, math.Inf(1), math.Inf(-1)}
		for _, bits := range bitsOfNaNs() {
			sides = append(sides, math.Float64frombits(bits))
		}
		for _, side := range sides {
			hold("Side", impl.Light{Nm: 550, Side: side, Pol: pol}, impl.ErrRange)
		}
	}
	for _, pol := range []int64{0, -1, -2, 3, 4, 256 + 1, 1<<32 + 2, math.MinInt64, math.MaxInt64} {
		hold("Pol", impl.Light{Nm: 550, Side: 0.5, Pol: pol}, impl.ErrForm)
		hold("Pol and Nm", impl.Light{Nm: 0, Side: 0.5, Pol: pol}, impl.ErrForm)
		hold("Pol and Side", impl.Light{Nm: 550, Side: math.NaN(), Pol: pol}, impl.ErrForm)
	}
}

// stacksOfEveryKind are right and wrong ones, with room behind their films.
func stacksOfEveryKind() []impl.Stack {
	list := []impl.Stack{{}, {In: 1, Out: 1.5}, {In: 1, Out: 1.5, Films: []impl.Film{}}, coatedStack()}
	for count := range 6 {
		films := append(make([]impl.Film, 0, count+3), likeFilms(count)...)
		for i := range films {
			films[i].Thick = int64(i)
		}
		list = append(list, impl.Stack{In: 2, Out: 3, Films: films})
	}
	for _, spoil := range stackSpoilers() {
		list = append(list, changedStack(coatedStack(), spoil))
	}
	many := impl.Stack{In: math.Inf(-1), Out: math.Copysign(0, -1), Films: likeFilms(500)}
	for i := range many.Films {
		many.Films[i] = impl.Film{Index: float64(i), Keep: math.NaN(), Thick: int64(-i)}
	}
	return append(list, many)
}

func TestTurnedStacks(t *testing.T) {
	a, b, c := impl.Film{Index: 2, Keep: 1, Thick: 1}, impl.Film{Index: 3, Keep: 0.5, Thick: 2}, impl.Film{Index: 4, Keep: 0.25, Thick: 3}
	got := impl.TurnStack(impl.Stack{In: 1, Out: 1.5, Films: []impl.Film{a, b, c}})
	if !sameStack(got, impl.Stack{In: 1.5, Out: 1, Films: []impl.Film{c, b, a}}) {
		t.Errorf("TurnStack: %v", got)
	}
	if got := impl.TurnStack(impl.Stack{In: 1, Out: 1.5}); !sameStack(got, impl.Stack{In: 1.5, Out: 1}) {
		t.Errorf("TurnStack without films: %v", got)
	}
}

func TestStacksTurnedTwice(t *testing.T) {
	for _, s := range stacksOfEveryKind() {
		once, twice := impl.Stack{}, impl.Stack{}
		if !leftAlone(s, func() { once = impl.TurnStack(s) }) {
			t.Errorf("TurnStack changed %v", s)
		}
		want := impl.Stack{In: s.Out, Out: s.In}
		for i := len(s.Films) - 1; i >= 0; i-- {
			want.Films = append(want.Films, s.Films[i])
		}
		if !sameStack(once, want) {
			t.Errorf("TurnStack(%v) = %v", s, once)
		}
		if !leftAlone(once, func() { twice = impl.TurnStack(once) }) || !sameStack(twice, s) {
			t.Errorf("turned twice, %v is %v", s, twice)
		}
		apart(t, [][]impl.Film{once.Films}, [][]impl.Film{s.Films})
		apart(t, [][]impl.Film{twice.Films}, [][]impl.Film{once.Films, s.Films})
	}
}
