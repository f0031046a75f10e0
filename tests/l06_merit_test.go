package tests

import (
	"math"
	"slices"
	"strconv"
	"testing"

	"loop.example/g00049/impl"
)

// goal is a target for light straight ahead.
func goal(nm int64, want float64) impl.Target {
	return impl.Target{Light: impl.Light{Nm: nm, Pol: impl.PolS}, Want: want}
}

// goals are so many targets that any stack goes together with.
func goals(count int) []impl.Target {
	list := []impl.Target{}
	for i := range count {
		list = append(list, goal(int64(400+20*i), float64(i)/16))
	}
	return list
}

func drawnGoals(draw *numbers, count int64) []impl.Target {
	list := []impl.Target{}
	for range count {
		w := impl.Light{Nm: 300 + draw.below(700), Side: 0.6 * drawnPart(draw), Pol: impl.PolS + draw.below(2)}
		list = append(list, impl.Target{Light: w, Want: 2*drawnPart(draw) - 0.5})
	}
	return list
}

// meritByWords takes a stack that goes together with each target's light.
func meritByWords(s impl.Stack, list []impl.Target) float64 {
	sum := 0.0
	for _, target := range list {
		less := reflectByWords(s, target.Light).R - target.Want
		sum += float64(less * less)
	}
	return sum
}

func sameTarget(a impl.Target, b impl.Target) bool {
	return a.Light.Nm == b.Light.Nm && a.Light.Pol == b.Light.Pol && sameFloat(a.Light.Side, b.Light.Side) && sameFloat(a.Want, b.Want)
}

func holdMerit(t *testing.T, what string, s impl.Stack, list []impl.Target, want impl.MeritResult) {
	t.Helper()
	got, kept := impl.MeritResult{}, slices.Clone(list)
	if !leftAlone(s, func() { got = impl.Merit(s, list) }) || !slices.EqualFunc(list, kept, sameTarget) {
		t.Errorf("%s: the arguments were changed", what)
	}
	if got.Code != want.Code || !sameFloat(got.Merit, want.Merit) {
		t.Errorf("%s: %v, want %v", what, got, want)
	}
}

func TestMeritTold(t *testing.T) {
	s := impl.Stack{In: 1, Out: 3}
	holdMerit(t, "no target", s, nil, impl.MeritResult{})
	holdMerit(t, "an empty list", s, []impl.Target{}, impl.MeritResult{})
	holdMerit(t, "just met", s, []impl.Target{goal(500, 0.25)}, impl.MeritResult{})
	holdMerit(t, "a half too high", s, []impl.Target{goal(500, -0.25)}, impl.MeritResult{Merit: 0.25})
	holdMerit(t, "a half too low", s, []impl.Target{goal(500, 0.75)}, impl.MeritResult{Merit: 0.25})
	holdMerit(t, "two", s, []impl.Target{goal(500, 0.75), goal(700, 1.25)}, impl.MeritResult{Merit: 1.25})
	// Behind the great one, each of the small ones is lost; ahead of it, both together are not.
	far := []impl.Target{goal(500, 0.25+0x1p30), goal(500, 10.25), goal(500, 10.25)}
	holdMerit(t, "the great one first", s, far, impl.MeritResult{Merit: 0x1p60})
	slices.Reverse(far)
	holdMerit(t, "the great one last", s, far, impl.MeritResult{Merit: 0x1p60 + 256})
	for _, want := range []float64{math.Inf(1), math.Inf(-1), 1e200} {
		holdMerit(t, "an infinite miss", s, []impl.Target{goal(500, 0), goal(500, want), goal(500, 0)}, impl.MeritResult{Merit: math.Inf(1)})
	}
	holdMerit(t, "a Want of NaN", s, []impl.Target{goal(500, math.NaN()), goal(500, math.Inf(1))}, impl.MeritResult{Merit: math.NaN()})
	// Nothing is divided by: R is NaN.
	none := impl.Stack{In: 1, Out: 1, Films: []impl.Film{{Index: 3, Keep: 0.5}}}
	holdMerit(t, "an R of NaN", none, []impl.Target{goal(500, 0)}, impl.MeritResult{Merit: math.NaN()})
}

func TestMeritStepByStep(t *testing.T) {
	draw := numbers{state: 68}
	for _, pair := range clearPairs(69, 500, 0.5) {
		s := pair.stack
		s.In = 1
		list := drawnGoals(&draw, draw.below(impl.MaxTargets+1))
		holdMerit(t, "drawn", s, list, impl.MeritResult{Merit: meritByWords(s, list)})
	}
}

func TestNumbersOfTargets(t *testing.T) {
	s := coatedStack()
	for _, count := range []int{0, 1, 2, impl.MaxTargets - 1, impl.MaxTargets} {
		holdMerit(t, strconv.Itoa(count)+" targets", s, goals(count), impl.MeritResult{Merit: meritByWords(s, goals(count))})
	}
	for _, count := range []int{impl.MaxTargets + 1, impl.MaxTargets + 2, 10000} {
		holdMerit(t, strconv.Itoa(count)+" targets", s, goals(count), impl.MeritResult{Code: impl.ErrMany})
		holdMerit(t, strconv.Itoa(count)+" targets of a wrong stack", impl.Stack{}, goals(count), impl.MeritResult{Code: impl.ErrMany})
		holdMerit(t, strconv.Itoa(count)+" wrong targets", s, make([]impl.Target, count), impl.MeritResult{Code: impl.ErrMany})
	}
}

// A target's own code is told of the first that has one, whatever the later ones have.
func TestFirstTargetThatHasACode(t *testing.T) {
	right := goal(500, 0.5)
	noPol, noNm := impl.Target{Light: impl.Light{Nm: 500}}, impl.Target{Light: impl.Light{Pol: impl.PolP}}
	tooFlat := impl.Target{Light: impl.Light{Nm: 500, Side: 0.9, Pol: impl.PolP}}
	s := impl.Stack{In: 2, Out: 1.5, Films: likeFilms(2)}
	codes := map[int64]impl.Target{impl.ErrForm: noPol, impl.ErrRange: noNm, impl.ErrNone: tooFlat}
	for code, target := range codes {
		holdMerit(t, "alone", s, []impl.Target{target}, impl.MeritResult{Code: code})
		holdMerit(t, "the last of all", s, append(goals(impl.MaxTargets-1), target), impl.MeritResult{Code: code})
		for _, other := range codes {
			holdMerit(t, "ahead of another", s, []impl.Target{right, target, right, other}, impl.MeritResult{Code: code})
		}
	}
	wrong := changedStack(s, func(s *impl.Stack) { s.Films[1].Keep = 0 })
	many := impl.Stack{In: 2, Out: 1.5, Films: likeFilms(impl.MaxFilms + 1)}
	for _, target := range []impl.Target{right, noPol, noNm, tooFlat} {
		holdMerit(t, "of a wrong stack", wrong, []impl.Target{target}, impl.MeritResult{Code: impl.ErrRange})
		holdMerit(t, "of too many films", many, []impl.Target{target}, impl.MeritResult{Code: impl.ErrMany})
	}
	// Without a target nothing asks for the stack.
	holdMerit(t, "of a wrong stack without a target", wrong, nil, impl.MeritResult{})
	holdMerit(t, "of too many films without a target", many, nil, impl.MeritResult{})
}

func putIn(s impl.Stack, at int, film impl.Film) impl.Stack {
	films := []impl.Film{}
	for i, other := range s.Films {
		if i == at {
			films = append(films, film)
		}
		films = append(films, other)
	}
	if at == len(s.Films) {
		films = append(films, film)
	}
	return impl.Stack{In: s.In, Out: s.Out, Films: films}
}

// needleByWords reckons all places' merits, and looks for the least by the order of floats.
func needleByWords(s impl.Stack, film impl.Film, list []impl.Target) impl.StackResult {
	merits := []float64{}
	for at := range len(s.Films) + 1 {
		merits = append(merits, meritByWords(putIn(s, at, film), list))
	}
	best := 0
	for at, merit := range merits {
		if orderSlowly(merit, merits[best]) < 0 {
			best = at
		}
	}
	return impl.StackResult{At: int64(best), Merit: merits[best], Stack: putIn(s, best, film)}
}

func holdNeedle(t *testing.T, what string, s impl.Stack, film impl.Film, list []impl.Target, want impl.StackResult) {
	t.Helper()
	got, kept := impl.StackResult{}, slices.Clone(list)
	if !leftAlone(s, func() { got = impl.Needle(s, film, list) }) || !slices.EqualFunc(list, kept, sameTarget) {
		t.Errorf("%s: the arguments were changed", what)
	}
	if got.Code != want.Code || got.At != want.At || !sameFloat(got.Merit, want.Merit) || !sameStack(got.Stack, want.Stack) {
		t.Errorf("%s: %v, want %v", what, got, want)
	}
	apart(t, [][]impl.Film{got.Stack.Films}, [][]impl.Film{s.Films})
}

func TestNeedleTold(t *testing.T) {
	film := impl.Film{Index: 2, Keep: 1, Thick: 125}
	bare := impl.Stack{In: 1, Out: 4}
	holdNeedle(t, "a bare stack", bare, film, []impl.Target{goal(1000, 0)}, impl.StackResult{Stack: impl.Stack{In: 1, Out: 4, Films: []impl.Film{film}}})
	// A quarter of a turn is of use ahead of a film that is like Out, and of none behind it.
	like, air := impl.Film{Index: 4, Keep: 1, Thick: 70}, impl.Film{Index: 1, Keep: 1, Thick: 33}
	ahead := impl.Stack{In: 1, Out: 4, Films: []impl.Film{like}}
	got := impl.Needle(ahead, film, []impl.Target{goal(1000, 0)})
	if got.Code != impl.OK || got.At != 0 || !(got.Merit < 1e-25) || !sameStack(got.Stack, putIn(ahead, 0, film)) {
		t.Errorf("ahead: %v", got)
	}
	between := impl.Stack{In: 1, Out: 4, Films: []impl.Film{air, like}}
	got = impl.Needle(between, film, []impl.Target{goal(1000, 0)})
	if got.Code != impl.OK || got.At != 1 || !(got.Merit < 1e-25) || !sameStack(got.Stack, putIn(between, 1, film)) {
		t.Errorf("between: %v", got)
	}
	behind := impl.Stack{In: 1, Out: 4, Films: []impl.Film{air}}
	got = impl.Needle(behind, film, []impl.Target{goal(1000, 0)})
	if got.Code != impl.OK || got.At != 1 || !(got.Merit < 1e-25) || !sameStack(got.Stack, putIn(behind, 1, film)) {
		t.Errorf("behind: %v", got)
	}
}

func TestNeedleFindsTheBestPlace(t *testing.T) {
	draw := numbers{state: 610}
	places := map[int64]int{}
	for _, pair := range clearPairs(611, 600, 0.5) {
		s, list := pair.stack, drawnGoals(&draw, 1+draw.below(4))
		s.In = 1
		film := impl.Film{Index: 1 + 2*drawnPart(&draw), Keep: 1 - 0.2*drawnPart(&draw), Thick: draw.below(300)}
		want := needleByWords(s, film, list)
		places[want.At]++
		holdNeedle(t, "drawn", s, film, list, want)
		for at := range len(s.Films) + 1 {
			if other := impl.Merit(putIn(s, at, film), list).Merit; other < want.Merit || other == want.Merit && int64(at) < want.At {
				t.Errorf("place %d is better than %d: %v, %v", at, want.At, other, want.Merit)
			}
		}
	}
	for at := range int64(5) {
		if places[at] == 0 {
			t.Errorf("no best place was %d", at)
		}
	}
}

func TestFirstOfSeveralPlaces(t *testing.T) {
	film := impl.Film{Index: 1.38, Keep: 0.99, Thick: 90}
	// Put in ahead of its like or behind it, it makes the same stack.
	for count := range 5 {
		s := impl.Stack{In: 1, Out: 1.5, Films: slices.Repeat([]impl.Film{film}, count)}
		want := impl.StackResult{Stack: putIn(s, 0, film)}
		want.Merit = meritByWords(want.Stack, goals(3))
		holdNeedle(t, "its likes", s, film, goals(3), want)
	}
	other := impl.Film{Index: 2.2, Keep: 1, Thick: 40}
	for _, films := range [][]impl.Film{{other, film, film}, {film, film, other}, {other, film, other}, {film, other, film}} {
		s := impl.Stack{In: 1, Out: 1.5, Films: films}
		holdNeedle(t, "some likes", s, film, goals(2), needleByWords(s, film, goals(2)))
	}
	// Without a target each place is as good, and nothing asks for the film.
	for _, s := range []impl.Stack{coatedStack(), {In: 1, Out: 2}, {In: 1, Out: 2, Films: likeFilms(impl.MaxFilms - 1)}, changedStack(coatedStack(), func(s *impl.Stack) { s.Out = math.NaN() })} {
		for _, whatever := range []impl.Film{film, {}, {Index: math.NaN(), Keep: -1, Thick: math.MinInt64}} {
			holdNeedle(t, "no target", s, whatever, nil, impl.StackResult{Stack: putIn(s, 0, whatever)})
		}
	}
}

func TestNeedlesOfNoNumber(t *testing.T) {
	s, film := coatedStack(), impl.Film{Index: 1.38, Keep: 0.99, Thick: 90}
	for _, want := range []float64{math.NaN(), math.Inf(1), math.Inf(-1)} {
		merit := math.Inf(1)
		if math.IsNaN(want) {
			merit = want
		}
		holdNeedle(t, "a Want", s, film, []impl.Target{goal(500, 0.5), goal(500, want)}, impl.StackResult{Merit: merit, Stack: putIn(s, 0, film)})
	}
	holdNeedle(t, "a film that keeps nearly nothing", s, impl.Film{Index: 2, Keep: 5e-324}, goals(2), impl.StackResult{Merit: math.NaN(), Stack: putIn(s, 0, impl.Film{Index: 2, Keep: 5e-324})})
}

// Plates are so great that in some places they come out as NaN; those are the last in the order.
func TestNeedlesOfSomeNumbers(t *testing.T) {
	draw := numbers{state: 612}
	mixed := 0
	for range 400 {
		s := impl.Stack{In: 1, Out: 1 + drawnPart(&draw)}
		for range 3 {
			s.Films = append(s.Films, impl.Film{Index: 1 + 9*drawnPart(&draw), Keep: 1e-77, Thick: draw.below(300)})
		}
		film := impl.Film{Index: 1 + 9*drawnPart(&draw), Keep: 1e-77 * drawnPart(&draw), Thick: draw.below(300)}
		list := []impl.Target{goal(500, drawnPart(&draw))}
		first, some := false, 0
		for at := range 4 {
			if merit := meritByWords(putIn(s, at, film), list); !math.IsNaN(merit) {
				some++
				first = first || at == 0
			}
		}
		if !first && some > 0 {
			mixed++
		}
		holdNeedle(t, "great plates", s, film, list, needleByWords(s, film, list))
	}
	if mixed == 0 {
		t.Error("no first place was NaN with a number behind it")
	}
}

func TestNumbersOfFilmsForANeedle(t *testing.T) {
	film := impl.Film{Index: 2, Keep: 1, Thick: 60}
	for _, count := range []int{0, 1, 2, impl.MaxFilms - 2, impl.MaxFilms - 1} {
		s := impl.Stack{In: 1, Out: 1.5, Films: append(make([]impl.Film, 0, count+5), likeFilms(count)...)}
		holdNeedle(t, strconv.Itoa(count)+" films", s, film, goals(2), needleByWords(s, film, goals(2)))
	}
	for _, count := range []int{impl.MaxFilms, impl.MaxFilms + 1, 1000} {
		s := impl.Stack{In: 1, Out: 1.5, Films: likeFilms(count)}
		for _, list := range [][]impl.Target{nil, goals(2), goals(impl.MaxTargets + 1), make([]impl.Target, 1)} {
			holdNeedle(t, strconv.Itoa(count)+" films", s, film, list, impl.StackResult{Code: impl.ErrMany})
			s.In = 0
			holdNeedle(t, strconv.Itoa(count)+" films of a wrong stack", s, impl.Film{}, list, impl.StackResult{Code: impl.ErrMany})
		}
	}
	// At both bounds at once.
	s := impl.Stack{In: 1, Out: 1.5, Films: likeFilms(impl.MaxFilms - 1)}
	holdNeedle(t, "all films, all targets", s, film, goals(impl.MaxTargets), needleByWords(s, film, goals(impl.MaxTargets)))
}

func TestCodesOfNeedles(t *testing.T) {
	s, film := impl.Stack{In: 2, Out: 1.9, Films: likeFilms(3)}, impl.Film{Index: 2, Keep: 1, Thick: 60}
	for i := range s.Films {
		s.Films[i].Index = 1.9
	}
	steep, flat := goal(500, 0), impl.Target{Light: impl.Light{Nm: 500, Side: 0.9, Pol: impl.PolP}}
	tooFlat := impl.Target{Light: impl.Light{Nm: 500, Side: 0.96, Pol: impl.PolS}}
	noPol := impl.Target{Light: impl.Light{Nm: 500}}
	wide, low := impl.Film{Index: 2, Keep: 1, Thick: -1}, impl.Film{Index: 1.5, Keep: 1, Thick: 60}
	wrong := changedStack(s, func(s *impl.Stack) { s.Films[2].Keep = 2 })
	for _, one := range []struct {
		what  string
		stack impl.Stack
		film  impl.Film
		list  []impl.Target
		code  int64
	}{
		{"too many targets", s, film, goals(impl.MaxTargets + 1), impl.ErrMany},
		{"too many targets, all else wrong", wrong, wide, make([]impl.Target, impl.MaxTargets+1), impl.ErrMany},
		{"a wrong stack", wrong, film, []impl.Target{steep}, impl.ErrRange},
		{"a wrong stack, a wrong light", wrong, film, []impl.Target{noPol}, impl.ErrRange},
		{"a wrong light", s, film, []impl.Target{steep, noPol}, impl.ErrForm},
		{"a wrong light, a wrong film", s, wide, []impl.Target{steep, noPol}, impl.ErrForm},
		{"not together", s, film, []impl.Target{flat, tooFlat, noPol}, impl.ErrNone},
		{"not together, a wrong film", s, wide, []impl.Target{flat, tooFlat}, impl.ErrNone},
		{"a wrong film", s, wide, []impl.Target{steep}, impl.ErrRange},
		{"a film of no index", s, impl.Film{Keep: 1}, []impl.Target{steep}, impl.ErrRange},
		{"the film not together", s, low, []impl.Target{steep, flat}, impl.ErrNone},
		{"the film of a bare stack", impl.Stack{In: 2, Out: 2}, low, []impl.Target{flat}, impl.ErrNone},
	} {
		holdNeedle(t, one.what, one.stack, one.film, one.list, impl.StackResult{Code: one.code})
	}
	holdNeedle(t, "together", s, film, []impl.Target{steep, flat}, needleByWords(s, film, []impl.Target{steep, flat}))
}

// Whatever comes in is answered, the second time as the first; with a code all else is zero.
func TestEveryStackAndLightIsAnswered(t *testing.T) {
	lights := []impl.Light{{}, slantLight(), {Nm: 1, Pol: impl.PolS}, {Nm: impl.MaxNm, Side: 0.999, Pol: impl.PolP}}
	for _, f := range floatsInOrder() {
		lights = append(lights, impl.Light{Nm: 500, Side: f, Pol: impl.PolS})
	}
	for _, s := range stacksOfEveryKind() {
		for _, w := range lights {
			code := impl.StackFault(s)
			if code == impl.OK {
				code = impl.LightFault(w)
			}
			if code == impl.OK && !togetherByWords(s, w) {
				code = impl.ErrNone
			}
			plate, back := impl.PlateResult{Code: code}, impl.FilmResult{Code: code}
			merit := impl.MeritResult{Code: code}
			list := []impl.Target{{Light: w, Want: 0.5}}
			if code == impl.OK {
				plate.Plate, back, merit.Merit = stackByWords(s, w), reflectByWords(s, w), meritByWords(s, list)
			}
			for range 2 {
				holdPlateResult(t, "any StackPlate", impl.StackPlate(s, w), plate)
				holdReflect(t, "any Reflect", impl.Reflect(s, w), back)
				holdMerit(t, "any Merit", s, list, merit)
			}
			film := impl.Film{Index: 10, Keep: 0.5, Thick: 50}
			want := impl.StackResult{Code: code}
			if code == impl.OK {
				want = needleByWords(s, film, list)
			}
			holdNeedle(t, "any Needle", s, film, list, want)
		}
	}
}
