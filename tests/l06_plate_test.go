package tests

import (
	"math"
	"slices"
	"strconv"
	"testing"

	"loop.example/g00049/impl"
)

// depthByWords is n n - X, which says whether a stack and a light go together.
func depthByWords(s impl.Stack, w impl.Light, n float64) float64 {
	x := float64(s.In * w.Side)
	return float64(n*n) - float64(x*x)
}

func admittanceByWords(s impl.Stack, w impl.Light, n float64) float64 {
	q := math.Sqrt(depthByWords(s, w, n))
	if w.Pol == impl.PolP {
		return float64(n*n) / q
	}
	return q
}

// phaseByWords is in parts of a turn.
func phaseByWords(s impl.Stack, film impl.Film, w impl.Light) int64 {
	q := math.Sqrt(depthByWords(s, w, film.Index))
	turns := float64(q*float64(film.Thick)) / float64(w.Nm)
	return int64(math.Floor(float64(turns*1048576) + 0.5))
}

// partsBy has both parts of z put through an operation.
func partsBy(z impl.Z, operation func(float64) float64) impl.Z {
	return impl.Z{Re: operation(z.Re), Im: operation(z.Im)}
}

func filmByWords(s impl.Stack, film impl.Film, w impl.Light) impl.Plate {
	e := turnByWords(rootsByWords(), phaseByWords(s, film, w))
	y := admittanceByWords(s, w, film.Index)
	halved := func(f float64) float64 { return f / 2 }
	up := partsBy(e, func(f float64) float64 { return float64(f * film.Keep) })
	down := impl.Z{Re: e.Re / film.Keep, Im: turned(e).Im / film.Keep}
	c := partsBy(addByWords(up, down), halved)
	d := partsBy(addByWords(up, turned(down)), halved)
	return impl.Plate{
		A: c,
		B: partsBy(d, func(f float64) float64 { return f / y }),
		C: partsBy(d, func(f float64) float64 { return float64(f * y) }),
		D: c,
	}
}

func stackByWords(s impl.Stack, w impl.Light) impl.Plate {
	chain := realPlate(1, 0, 0, 1)
	for _, film := range s.Films {
		chain = plateByWords(chain, filmByWords(s, film, w))
	}
	return chain
}

func reflectByWords(s impl.Stack, w impl.Light) impl.FilmResult {
	p, i, o := stackByWords(s, w), admittanceByWords(s, w, s.In), admittanceByWords(s, w, s.Out)
	timesOut := func(f float64) float64 { return float64(f * o) }
	b := partsBy(addByWords(p.A, partsBy(p.B, timesOut)), func(f float64) float64 { return float64(f * i) })
	c := addByWords(p.C, partsBy(p.D, timesOut))
	r := impl.FilmResult{
		Back:    divByWords(addByWords(b, turned(c)), addByWords(b, c)),
		Through: divByWords(impl.Z{Re: i + i}, addByWords(b, c)),
	}
	norm := func(z impl.Z) float64 { return float64(z.Re*z.Re) + float64(z.Im*z.Im) }
	r.R, r.T = norm(r.Back), float64(o*norm(r.Through))/i
	return r
}

// pairOf is a stack and a light.
type pairOf struct {
	stack impl.Stack
	light impl.Light
}

func drawnPart(draw *numbers) float64 {
	return float64(draw.below(1<<53)) / (1 << 53)
}

// drawnKeep is 1, or below it by all sizes, seldom by so much that it has few bits.
func drawnKeep(draw *numbers) float64 {
	switch draw.below(12) {
	case 0, 1, 2:
		return 1
	case 3:
		return math.Pow(10, -300*drawnPart(draw))
	case 4:
		return 5e-324 * float64(1+draw.below(20))
	}
	return math.Nextafter(drawnPart(draw), 1)
}

// drawnPairs are right stacks and right lights; most of them go together.
func drawnPairs(seed uint64, count int) []pairOf {
	draw := numbers{state: seed}
	list := []pairOf{}
	for range count {
		s := impl.Stack{In: 1 + 3*drawnPart(&draw), Out: 1 + 5*drawnPart(&draw)}
		for range draw.below(6) {
			film := impl.Film{Index: 1 + 4*drawnPart(&draw), Keep: drawnKeep(&draw), Thick: draw.below(400)}
			if draw.below(4) == 0 {
				film.Thick = draw.below(1000001)
			}
			s.Films = append(s.Films, film)
		}
		w := impl.Light{Nm: 300 + draw.below(700), Side: drawnPart(&draw), Pol: impl.PolS + draw.below(2)}
		if draw.below(3) == 0 {
			w.Nm, w.Side = 1+draw.below(impl.MaxNm), 0
		}
		list = append(list, pairOf{s, w})
	}
	return list
}

func togetherByWords(s impl.Stack, w impl.Light) bool {
	media := []float64{s.In, s.Out}
	for _, film := range s.Films {
		media = append(media, film.Index)
	}
	return !slices.ContainsFunc(media, func(n float64) bool { return !(depthByWords(s, w, n) > 0) })
}

func holdPlateResult(t *testing.T, what string, got impl.PlateResult, want impl.PlateResult) {
	t.Helper()
	if got.Code != want.Code || !samePlate(got.Plate, want.Plate) {
		t.Errorf("%s: %v, want %v", what, got, want)
	}
}

func holdReflect(t *testing.T, what string, got impl.FilmResult, want impl.FilmResult) {
	t.Helper()
	if got.Code != want.Code || !sameZ(got.Back, want.Back) || !sameZ(got.Through, want.Through) || !sameFloat(got.R, want.R) || !sameFloat(got.T, want.T) {
		t.Errorf("%s: %v, want %v", what, got, want)
	}
}

// holdPair asks for all plates of a stack and for what comes back, and for what the document says of them.
func holdPair(t *testing.T, what string, s impl.Stack, w impl.Light) {
	t.Helper()
	code := int64(impl.OK)
	if !togetherByWords(s, w) {
		code = impl.ErrNone
	}
	right := leftAlone(s, func() {
		for i, film := range s.Films {
			want := impl.PlateResult{Code: code}
			if code == impl.OK {
				want.Plate = filmByWords(s, film, w)
			}
			holdPlateResult(t, what+": film "+strconv.Itoa(i), impl.FilmPlate(s, int64(i), w), want)
		}
		plate, back := impl.PlateResult{Code: code}, impl.FilmResult{Code: code}
		if code == impl.OK {
			plate.Plate, back = stackByWords(s, w), reflectByWords(s, w)
		}
		holdPlateResult(t, what+": StackPlate", impl.StackPlate(s, w), plate)
		holdReflect(t, what+": Reflect", impl.Reflect(s, w), back)
	})
	if !right {
		t.Errorf("%s: the stack was changed", what)
	}
}

func TestFilmsStepByStep(t *testing.T) {
	together, apart := 0, 0
	for i, pair := range drawnPairs(61, 3000) {
		holdPair(t, "pair "+strconv.Itoa(i), pair.stack, pair.light)
		if togetherByWords(pair.stack, pair.light) {
			together++
		} else {
			apart++
		}
	}
	if together < 1000 || apart < 300 {
		t.Errorf("%d go together, %d do not: too few were drawn", together, apart)
	}
	for _, count := range []int{impl.MaxFilms - 1, impl.MaxFilms} {
		holdPair(t, "many films", impl.Stack{In: 1, Out: 2, Films: likeFilms(count)}, slantLight())
	}
	holdPair(t, "a coated one", coatedStack(), slantLight())
	holdPair(t, "no film", impl.Stack{In: 1, Out: 2}, slantLight())
	holdPair(t, "an empty list", impl.Stack{In: 1, Out: 2, Films: []impl.Film{}}, slantLight())
}

// At each bound of a film and of a light.
func TestFilmsAtTheirBounds(t *testing.T) {
	for _, index := range []float64{1, math.Nextafter(1, 2), 10} {
		for _, keep := range []float64{5e-324, 1e-310, 6e-309, 1e-308, 1e-307, 1e-300, 1e-160, 0.5, math.Nextafter(1, 0), 1} {
			for _, thick := range []int64{0, 1, 999999, 1000000} {
				for _, nm := range []int64{1, 2, impl.MaxNm} {
					for _, side := range []float64{0, math.Copysign(0, -1), 5e-324, 0.1, math.Nextafter(1, 0)} {
						film := impl.Film{Index: index, Keep: keep, Thick: thick}
						for _, pol := range []int64{impl.PolS, impl.PolP} {
							w := impl.Light{Nm: nm, Side: side, Pol: pol}
							holdPair(t, "one film", impl.Stack{In: 1, Out: 10, Films: []impl.Film{film}}, w)
							holdPair(t, "two films", impl.Stack{In: 10, Out: 10, Films: []impl.Film{{Index: 10, Keep: 1, Thick: 3}, film}}, w)
						}
					}
				}
			}
		}
	}
}

// What goes through is among the least floats, which have few bits to be rounded to.
func TestFilmsThatLetNearlyNothingThrough(t *testing.T) {
	draw := numbers{state: 614}
	for range 200 {
		s := impl.Stack{In: 1, Out: 1 + drawnPart(&draw), Films: []impl.Film{{Index: 3, Keep: 6e-309 * (1 + drawnPart(&draw)), Thick: draw.below(300)}}}
		w := impl.Light{Nm: 500, Pol: impl.PolS}
		holdPair(t, "nearly nothing", s, w)
		if got := impl.Reflect(s, w).Through; math.Hypot(got.Re, got.Im) > 1e-307 {
			t.Errorf("%v goes through %v", got, s)
		}
	}
}

func TestPlatesOfFilmsTold(t *testing.T) {
	plate := func(film impl.Film, nm int64) impl.Plate {
		t.Helper()
		r := impl.FilmPlate(impl.Stack{In: 1, Out: 1, Films: []impl.Film{film}}, 0, impl.Light{Nm: nm, Pol: impl.PolS})
		if r.Code != impl.OK {
			t.Errorf("%v: code %d", film, r.Code)
		}
		return r.Plate
	}
	unit := realPlate(1, 0, 0, 1)
	holdPlate(t, "of no thickness", plate(impl.Film{Index: 2, Keep: 1}, 500), unit)
	holdPlate(t, "a whole turn", plate(impl.Film{Index: 2, Keep: 1, Thick: 250}, 500), unit)
	holdPlate(t, "many turns", plate(impl.Film{Index: 2, Keep: 1, Thick: 1000000}, 1), unit)
	quarter := impl.Plate{B: impl.Z{Im: 0.5}, C: impl.Z{Im: 2}}
	holdPlate(t, "a quarter of a turn", plate(impl.Film{Index: 2, Keep: 1, Thick: 125}, 1000), quarter)
	holdPlate(t, "a quarter and turns", plate(impl.Film{Index: 2, Keep: 1, Thick: 1125}, 1000), quarter)
	half := impl.Plate{A: impl.Z{Re: -1}, D: impl.Z{Re: -1}}
	holdPlate(t, "half a turn", plate(impl.Film{Index: 2, Keep: 1, Thick: 250}, 1000), half)
	// What is kept is seen without a thickness, too.
	holdPlate(t, "half kept", plate(impl.Film{Index: 3, Keep: 0.5}, 500), realPlate(1.25, -0.25, -2.25, 1.25))
	dim := impl.Plate{A: impl.Z{Im: -0.75}, B: impl.Z{Im: 0.625}, C: impl.Z{Im: 2.5}, D: impl.Z{Im: -0.75}}
	holdPlate(t, "half kept, a quarter of a turn", plate(impl.Film{Index: 2, Keep: 0.5, Thick: 125}, 1000), dim)
}

// Of an admittance of 4 / sqrt(3) one is told from one of sqrt(3).
func TestAdmittancesOfBothPolarisations(t *testing.T) {
	s := impl.Stack{In: 2, Out: 2, Films: []impl.Film{{Index: 2, Keep: 0.5}}}
	for pol, y := range map[int64]float64{impl.PolS: math.Sqrt(3), impl.PolP: 4 / math.Sqrt(3)} {
		r := impl.FilmPlate(s, 0, impl.Light{Nm: 500, Side: 0.5, Pol: pol})
		holdPlateResult(t, "Pol "+strconv.FormatInt(pol, 10), r, impl.PlateResult{Plate: realPlate(1.25, -0.75/y, -0.75*y, 1.25)})
	}
}

// 33/32 of a nm by 65536 nm is 16.5 parts of a turn.
func TestPhasesAreRoundedDown(t *testing.T) {
	const edge = 33.0 / 32
	for _, one := range []struct {
		index float64
		part  int64
	}{
		{edge, 17}, {math.Nextafter(edge, 1), 16}, {math.Nextafter(edge, 2), 17}, {1, 16}, {34.0 / 32, 17}, {35.0 / 32, 18}, {math.Nextafter(35.0/32, 1), 17}, {35.5 / 32, 18},
	} {
		for _, turns := range []int64{0, 1, 9} {
			// So many nm more are whole turns of an index of 32nds.
			film := impl.Film{Index: one.index, Keep: 1, Thick: 1 + turns*65536}
			s := impl.Stack{In: 1, Out: 1, Films: []impl.Film{film}}
			w := impl.Light{Nm: 65536, Pol: impl.PolS}
			if turns == 0 {
				got := impl.FilmPlate(s, 0, w).Plate
				if got.A.Re != impl.TurnZ(one.part).Re || got.C.Im != impl.TurnZ(one.part).Im*one.index {
					t.Errorf("an index of %v: %v is not of %d parts", one.index, got, one.part)
				}
			}
			holdPair(t, "a phase at its edge", s, w)
		}
	}
}

// Phases of very many turns, which another order of the steps rounds to others.
func TestPhasesInTheStatedOrder(t *testing.T) {
	draw := numbers{state: 613}
	others := map[string]int{"Nm first": 0, "Nm with Thick": 0}
	for range 60000 {
		film := impl.Film{Index: 1 + 9*drawnPart(&draw), Keep: 1, Thick: 900000 + draw.below(100001)}
		s, w := impl.Stack{In: 1, Out: 1, Films: []impl.Film{film}}, impl.Light{Nm: 1 + draw.below(30), Pol: impl.PolS}
		q, thick, nm := math.Sqrt(depthByWords(s, w, film.Index)), float64(film.Thick), float64(w.Nm)
		for order, turns := range map[string]float64{"Nm first": q / nm * thick, "Nm with Thick": q * (thick / nm)} {
			if int64(math.Floor(float64(turns*1048576)+0.5)) != phaseByWords(s, film, w) {
				others[order]++
				holdPair(t, "a phase that is another by "+order, s, w)
			}
		}
	}
	for order, count := range others {
		if count == 0 {
			t.Errorf("no phase is another by %s", order)
		}
	}
}

func TestPlacesOfFilms(t *testing.T) {
	s, w := coatedStack(), slantLight()
	for _, at := range []int64{math.MinInt64, -2, -1, 3, 4, 5, 1 << 32, math.MaxInt64} {
		holdPlateResult(t, "place "+strconv.FormatInt(at, 10), impl.FilmPlate(s, at, w), impl.PlateResult{Code: impl.ErrForm})
	}
	for at := range int64(3) {
		holdPlateResult(t, "place "+strconv.FormatInt(at, 10), impl.FilmPlate(s, at, w), impl.PlateResult{Plate: filmByWords(s, s.Films[at], w)})
	}
	for _, at := range []int64{-1, 0, 1} {
		holdPlateResult(t, "no film", impl.FilmPlate(impl.Stack{In: 1, Out: 1}, at, w), impl.PlateResult{Code: impl.ErrForm})
	}
}

// With an In of 2 and a Side of 0.5, X is 1: an index of 1 is just too low.
func TestStacksAndLightsThatGoTogether(t *testing.T) {
	edge, above := 1.0, math.Nextafter(1, 2)
	hold := func(what string, out float64, side float64, code int64, indices ...float64) {
		t.Helper()
		s := impl.Stack{In: 2, Out: out}
		for _, index := range indices {
			s.Films = append(s.Films, impl.Film{Index: index, Keep: 0.9, Thick: 50})
		}
		for _, pol := range []int64{impl.PolS, impl.PolP} {
			w := impl.Light{Nm: 500, Side: side, Pol: pol}
			holdPair(t, what, s, w)
			for at := range indices {
				if got := impl.FilmPlate(s, int64(at), w).Code; got != code {
					t.Errorf("%s: FilmPlate code %d, want %d", what, got, code)
				}
			}
			if plate, back := impl.StackPlate(s, w).Code, impl.Reflect(s, w).Code; plate != code || back != code {
				t.Errorf("%s: codes %d and %d, want %d", what, plate, back, code)
			}
			// The place is looked at first.
			for _, at := range []int64{-1, int64(len(indices))} {
				holdPlateResult(t, what, impl.FilmPlate(s, at, w), impl.PlateResult{Code: impl.ErrForm})
			}
		}
	}
	hold("Out", edge, 0.5, impl.ErrNone)
	hold("Out above", above, 0.5, impl.OK)
	hold("Out, of films", edge, 0.5, impl.ErrNone, 3, 4)
	hold("the first film", 3, 0.5, impl.ErrNone, edge, 3, 4)
	hold("a film between", 3, 0.5, impl.ErrNone, 3, edge, 4)
	hold("the last film", 3, 0.5, impl.ErrNone, 3, 4, edge)
	hold("films above", above, 0.5, impl.OK, above, 3, above)
	hold("less of a Side", edge, math.Nextafter(0.5, 0), impl.OK, edge)
	hold("more of a Side", edge, math.Nextafter(0.5, 1), impl.ErrNone, edge)
	hold("far too low", 1.5, 0.99, impl.ErrNone, 1)
}

// Of every In and every Side, n n - X of In itself is above 0.
func TestEveryLightGoesInto(t *testing.T) {
	draw := numbers{state: 62}
	ins := []float64{1, math.Nextafter(1, 2), math.Sqrt2, 1.5, 2, math.Nextafter(2, 1), 8, math.Nextafter(8, 9), 8.5, 10}
	for range 300 {
		ins = append(ins, 1+9*drawnPart(&draw))
	}
	for _, in := range ins {
		for _, side := range []float64{0, 0.5, math.Nextafter(1, 0)} {
			holdPair(t, "the same on both sides", impl.Stack{In: in, Out: in}, impl.Light{Nm: 500, Side: side, Pol: impl.PolP})
			if got := impl.Reflect(impl.Stack{In: in, Out: in}, impl.Light{Nm: 500, Side: side, Pol: impl.PolS}); got.Code != impl.OK || got.R != 0 || got.T != 1 {
				t.Errorf("from %v to itself, at %v: %v", in, side, got)
			}
		}
	}
}

// A stack's fault is told ahead of a light's, and that ahead of a place's, and that ahead of ErrNone.
func TestFirstFaultOfAPair(t *testing.T) {
	low := changedStack(coatedStack(), func(s *impl.Stack) { s.In, s.Films[1].Index = 10, 1 })
	many := changedStack(low, func(s *impl.Stack) { s.Films = append(s.Films, likeFilms(impl.MaxFilms-2)...) })
	wide := changedStack(low, func(s *impl.Stack) { s.Films[0].Keep = 0 })
	noPol, noSide := impl.Light{Nm: 550, Side: 0.5}, impl.Light{Nm: 550, Side: 1, Pol: impl.PolS}
	for _, one := range []struct {
		what  string
		stack impl.Stack
		light impl.Light
		code  int64
	}{
		{"too many", many, slantLight(), impl.ErrMany}, {"too many, no Pol", many, noPol, impl.ErrMany}, {"too many, no Side", many, noSide, impl.ErrMany},
		{"wide", wide, slantLight(), impl.ErrRange}, {"wide, no Pol", wide, noPol, impl.ErrRange}, {"wide, no Side", wide, noSide, impl.ErrRange},
		{"no Pol", low, noPol, impl.ErrForm}, {"no Side", low, noSide, impl.ErrRange}, {"not together", low, slantLight(), impl.ErrNone},
		{"the zero values", impl.Stack{}, impl.Light{}, impl.ErrRange},
	} {
		for _, at := range []int64{-1, 0, 1, 2, 500} {
			code := one.code
			if code == impl.ErrNone && (at < 0 || at > 2) {
				code = impl.ErrForm
			}
			holdPlateResult(t, one.what+" FilmPlate", impl.FilmPlate(one.stack, at, one.light), impl.PlateResult{Code: code})
		}
		holdPlateResult(t, one.what+" StackPlate", impl.StackPlate(one.stack, one.light), impl.PlateResult{Code: one.code})
		holdReflect(t, one.what+" Reflect", impl.Reflect(one.stack, one.light), impl.FilmResult{Code: one.code})
	}
}

func TestReflectTold(t *testing.T) {
	s := impl.Light{Nm: 1000, Pol: impl.PolS}
	reflect := func(what string, stack impl.Stack, w impl.Light, r float64, through float64) impl.FilmResult {
		t.Helper()
		got := impl.Reflect(stack, w)
		if got.Code != impl.OK || !(math.Abs(got.R-r) < 1e-15) || !(math.Abs(got.T-through) < 1e-15) {
			t.Errorf("%s: %v, want R %v, T %v", what, got, r, through)
		}
		return got
	}
	reflect("glass", impl.Stack{In: 1, Out: 1.5}, s, 0.04, 0.96)
	reflect("glass from within", impl.Stack{In: 1.5, Out: 1}, s, 0.04, 0.96)
	got := reflect("to 3", impl.Stack{In: 1, Out: 3}, s, 0.25, 0.75)
	holdReflect(t, "to 3", got, impl.FilmResult{Back: impl.Z{Re: -0.5}, Through: impl.Z{Re: 0.5}, R: 0.25, T: 0.75})
	got = reflect("a quarter of a turn between", impl.Stack{In: 1, Out: 4, Films: []impl.Film{{Index: 2, Keep: 1, Thick: 125}}}, s, 0, 1)
	if !impl.SameZ(got.Through, impl.Z{Im: -0.5}) || !impl.SameZ(got.Back, impl.Z{}) {
		t.Errorf("a quarter of a turn between: %v", got)
	}
	reflect("half a turn between", impl.Stack{In: 1, Out: 3, Films: []impl.Film{{Index: 2, Keep: 1, Thick: 250}}}, s, 0.25, 0.75)
	// By the laws of light at an angle: the sines are 0.6 and 0.4, the admittances 0.8 and sqrt(1.89), or 1.25 and 2.25 / sqrt(1.89).
	q := math.Sqrt(1.89)
	atS, atP := (0.8-q)/(0.8+q), (1.25-2.25/q)/(1.25+2.25/q)
	glass := impl.Stack{In: 1, Out: 1.5}
	reflect("at an angle, S", glass, impl.Light{Nm: 500, Side: 0.6, Pol: impl.PolS}, atS*atS, 1-atS*atS)
	reflect("at an angle, P", glass, impl.Light{Nm: 500, Side: 0.6, Pol: impl.PolP}, atP*atP, 1-atP*atP)
	// At Brewster's angle nothing of P comes back.
	reflect("at Brewster's angle", glass, impl.Light{Nm: 500, Side: 1.5 / math.Sqrt(3.25), Pol: impl.PolP}, 0, 1)
}

// A film of index 3 that keeps a half gives back as much as it loses: nothing is left to divide by.
func TestQuotientsByNought(t *testing.T) {
	s := impl.Stack{In: 1, Out: 1, Films: []impl.Film{{Index: 3, Keep: 0.5}}}
	w := impl.Light{Nm: 500, Pol: impl.PolS}
	holdPair(t, "nothing to divide by", s, w)
	inf, nan := math.Inf(1), math.NaN()
	holdReflect(t, "nothing to divide by", impl.Reflect(s, w), impl.FilmResult{Back: impl.Z{Re: inf, Im: nan}, Through: impl.Z{Re: inf, Im: nan}, R: nan, T: nan})
}

// clearPairs are drawn ones that go together, whose films keep all or at least half.
func clearPairs(seed uint64, count int, least float64) []pairOf {
	draw := numbers{state: seed}
	list := []pairOf{}
	for _, pair := range drawnPairs(seed, count) {
		for i := range pair.stack.Films {
			pair.stack.Films[i].Keep = least + (1-least)*drawnPart(&draw)
		}
		if togetherByWords(pair.stack, pair.light) {
			list = append(list, pair)
		}
	}
	return list
}

func near(a float64, b float64) bool {
	return math.Abs(a-b) <= 1e-9*max(1, math.Abs(a), math.Abs(b))
}

func TestPlatesGoTogetherAsTheirStacks(t *testing.T) {
	for _, pair := range clearPairs(63, 1000, 0.5) {
		s, w := pair.stack, pair.light
		part := func(from int, upTo int) impl.Plate {
			return impl.StackPlate(impl.Stack{In: s.In, Out: s.Out, Films: s.Films[from:upTo]}, w).Plate
		}
		count := len(s.Films)
		whole := part(0, count)
		for cut := range count + 1 {
			joined := impl.MulPlate(part(0, cut), part(cut, count))
			for _, two := range [][2]impl.Z{{whole.A, joined.A}, {whole.B, joined.B}, {whole.C, joined.C}, {whole.D, joined.D}} {
				if !near(two[0].Re, two[1].Re) || !near(two[0].Im, two[1].Im) {
					t.Fatalf("%v, cut at %d: %v, joined %v", s, cut, whole, joined)
				}
			}
		}
		for at := range count {
			film := impl.FilmPlate(s, int64(at), w).Plate
			holdPlate(t, "one film more", part(0, at+1), impl.MulPlate(part(0, at), film))
			if det := impl.DetPlate(film); !near(det.Re, 1) || !near(det.Im, 0) {
				t.Errorf("%v: the determinant of film %d is %v", s, at, det)
			}
		}
	}
}

// Where nothing is infinite: a film that keeps all and has no thickness has the plate (1 0; 0 1), so that but for signs of noughts nothing changes.
func TestFilmsOfNoThicknessAreNotSeen(t *testing.T) {
	draw := numbers{state: 64}
	for _, pair := range clearPairs(65, 1000, 0.5) {
		s, w := pair.stack, pair.light
		want := impl.Reflect(s, w)
		for at := range len(s.Films) + 1 {
			none := impl.Film{Index: s.In + (10-s.In)*drawnPart(&draw), Keep: 1}
			got := impl.Reflect(impl.Stack{In: s.In, Out: s.Out, Films: slices.Insert(slices.Clone(s.Films), at, none)}, w)
			if got.Code != impl.OK || !impl.SameZ(got.Back, want.Back) || !impl.SameZ(got.Through, want.Through) || got.R != want.R || got.T != want.T {
				t.Errorf("%v: %v, with nothing put in at %d %v", s, want, at, got)
			}
		}
	}
}

func TestFilmsThatKeepAllLoseNothing(t *testing.T) {
	for _, pair := range clearPairs(66, 1000, 1) {
		if got := impl.Reflect(pair.stack, pair.light); !near(got.R+got.T, 1) {
			t.Errorf("%v: R and T of %v together are %v", pair.stack, pair.light, got.R+got.T)
		}
	}
}

// As much goes through from either side.
func TestStacksSeenFromTheOtherSide(t *testing.T) {
	for _, pair := range clearPairs(67, 1000, 0.5) {
		w := impl.Light{Nm: pair.light.Nm, Pol: pair.light.Pol}
		ahead, behind := impl.Reflect(pair.stack, w), impl.Reflect(impl.TurnStack(pair.stack), w)
		if !near(ahead.T/behind.T, 1) {
			t.Errorf("%v: T is %v, from the other side %v", pair.stack, ahead.T, behind.T)
		}
	}
}
