package tests

import (
	"math"
	"math/big"
	"slices"
	"testing"

	"loop.example/g00049/impl"
)

// squareByWords is parts d d modulo Turn, of numbers of any size.
func squareByWords(parts int64, d int64) int64 {
	product := new(big.Int).Mul(big.NewInt(parts), big.NewInt(d))
	product.Mul(product, big.NewInt(d))
	return product.Mod(product, big.NewInt(1048576)).Int64()
}

func phasedByWords(list []impl.Z, parts []int64) impl.ZList {
	if code := fieldCode(len(list)); code != impl.OK {
		return noField(code)
	}
	if len(parts) != len(list) {
		return noField(impl.ErrForm)
	}
	roots, turned := rootsByWords(), []impl.Z{}
	for i, z := range list {
		turned = append(turned, mulByWords(z, turnByWords(roots, parts[i])))
	}
	return toldField(turned...)
}

// driftedPlaces are d of each number of a spectrum.
func driftedPlaces(n int) []int64 {
	places := []int64{}
	for j := range int64(n) {
		if 2*j > int64(n) {
			places = append(places, j-int64(n))
		} else {
			places = append(places, j)
		}
	}
	return places
}

func driftByWords(list []impl.Z, parts int64) impl.ZList {
	spectrum := spectrumByWords(list)
	if spectrum.Code != impl.OK {
		return spectrum
	}
	phases := []int64{}
	for _, d := range driftedPlaces(len(list)) {
		phases = append(phases, squareByWords(parts, d))
	}
	return fieldByWords(phasedByWords(spectrum.List, phases).List)
}

func bentByWords(n int64, parts int64) []int64 {
	if n < 1 || n > 1024 {
		return nil
	}
	phases := []int64{}
	for i := range n {
		phases = append(phases, squareByWords(parts, i-(n-n%2)/2))
	}
	return phases
}

func holdPhase(t *testing.T, what string, list []impl.Z, parts []int64, want impl.ZList) {
	t.Helper()
	kept := slices.Clone(parts[:cap(parts)])
	holdField(t, what+", PhaseField", func() impl.ZList { return impl.PhaseField(list, parts) }, want, list)
	if !slices.Equal(kept, parts[:cap(parts)]) {
		t.Errorf("%s: the parts are changed", what)
	}
}

func holdDrift(t *testing.T, what string, list []impl.Z, parts int64, want impl.ZList) {
	t.Helper()
	holdField(t, what+", DriftField", func() impl.ZList { return impl.DriftField(list, parts) }, want, list)
}

func holdBent(t *testing.T, n int64, parts int64, want []int64) {
	t.Helper()
	got, again := impl.BentPhases(n, parts), impl.BentPhases(n, parts)
	if !slices.Equal(got, want) || !slices.Equal(again, want) {
		t.Errorf("BentPhases(%d, %d) = %s, then %s, want %s", n, parts, brief(got), brief(again), brief(want))
	}
	apart(t, [][]int64{got, again}, nil)
	for _, phase := range got {
		if phase < 0 || phase >= impl.Turn {
			t.Errorf("BentPhases(%d, %d) has the phase %d", n, parts, phase)
		}
	}
}

// edgeParts are parts at the bounds of int64 and around whole turns.
func edgeParts() []int64 {
	list := []int64{math.MinInt64, math.MinInt64 + 1, math.MaxInt64, math.MaxInt64 - 1, math.MinInt32, math.MaxInt32, impl.Turn / 2, -impl.Turn / 2, impl.Turn / 4, impl.Turn / 16, -impl.Turn / 8, 1 << 40, 777777777777777777}
	for _, near := range []int64{-2, -1, 0, 1, 2, 3} {
		list = append(list, near, impl.Turn+near, -impl.Turn+near, 5*impl.Turn+near, math.MaxInt64/impl.Turn*impl.Turn+near)
	}
	return list
}

// drawnParts are edges and others, with room behind their end.
func drawnParts(draw *numbers, n int) []int64 {
	edges, list := edgeParts(), []int64{}
	for range n {
		part := draw.next()
		if draw.below(2) == 0 {
			part = edges[draw.below(int64(len(edges)))]
		}
		list = append(list, part)
	}
	return roomy(list, 7)
}

func TestPhaseFieldTold(t *testing.T) {
	below, inf, nan := nought(), math.Inf(1), math.NaN()
	one := impl.Z{Re: 1, Im: 2}
	for part, want := range map[int64]impl.Z{
		0: one, impl.Turn: one, -impl.Turn: one, math.MinInt64: one, impl.Turn / 4: {Re: -2, Im: 1}, -impl.Turn / 4: {Re: 2, Im: -1}, impl.Turn / 2: {Re: -1, Im: -2}, -impl.Turn / 2: {Re: -1, Im: -2}, 3 * impl.Turn / 4: {Re: 2, Im: -1},
	} {
		holdPhase(t, "one", []impl.Z{one}, []int64{part}, toldField(want))
	}
	holdPhase(t, "four", realField(1, 2, 3, 4), []int64{0, impl.Turn / 4, impl.Turn / 2, -impl.Turn / 4}, toldField(impl.Z{Re: 1}, impl.Z{Re: 0, Im: 2}, impl.Z{Re: -3, Im: 0}, impl.Z{Re: 0, Im: -4}))
	// A turn of no parts is multiplied, too: its Im is 0.
	holdPhase(t, "noughts", []impl.Z{{Re: below, Im: below}, {Re: below, Im: 1}}, []int64{0, 0}, toldField(impl.Z{Re: 0, Im: below}, impl.Z{Re: below, Im: 1}))
	holdPhase(t, "infinite", []impl.Z{{Re: inf, Im: 1}, {Re: 2, Im: -inf}}, []int64{0, 0}, toldField(impl.Z{Re: inf, Im: nan}, impl.Z{Re: nan, Im: -inf}))
	holdPhase(t, "NaN", []impl.Z{{Re: nan, Im: 1}}, []int64{0}, toldField(impl.Z{Re: nan, Im: nan}))
}

// TestPhaseFieldLengths: the field's own fault is told ahead of parts that are not as long; parts that are too long for a field are not as long.
func TestPhaseFieldLengths(t *testing.T) {
	lengths := []int{0, 1, 2, 3, 4, 8, 999, 1000, 1023, 1024, 1025, 2048}
	draw := numbers{state: 1210}
	for _, n := range lengths {
		for _, count := range lengths {
			list, parts := edgeField(&draw, n, 4), drawnParts(&draw, count)
			holdPhase(t, "lengths", list, parts, phasedByWords(list, parts))
			want := fieldCode(n)
			if want == impl.OK && n != count {
				want = impl.ErrForm
			}
			if code := impl.PhaseField(list, parts).Code; code != want {
				t.Errorf("%d numbers, %d parts: code %d, want %d", n, count, code, want)
			}
		}
	}
	four := realField(1, 2, 3, 4)
	for _, parts := range [][]int64{nil, {}, {1}, {1, 2, 3}, {1, 2, 3, 4, 5}, make([]int64, 1025), make([]int64, 4)[:3]} {
		holdPhase(t, "unlike long", four, parts, noField(impl.ErrForm))
	}
	holdPhase(t, "none", nil, nil, noField(impl.ErrForm))
	holdPhase(t, "three", make([]impl.Z, 3), make([]int64, 3), noField(impl.ErrForm))
	holdPhase(t, "too many", make([]impl.Z, 1025), make([]int64, 1025), noField(impl.ErrMany))
	holdPhase(t, "too many", make([]impl.Z, 1025), nil, noField(impl.ErrMany))
	holdPhase(t, "too many", make([]impl.Z, 2048), make([]int64, 3), noField(impl.ErrMany))
}

func TestPhaseFieldByWords(t *testing.T) {
	draw := numbers{state: 1211}
	for _, z := range everyZ() {
		for _, part := range []int64{0, 1, impl.Turn / 4, impl.Turn / 2, draw.next()} {
			holdPhase(t, "kinds", []impl.Z{z}, []int64{part}, phasedByWords([]impl.Z{z}, []int64{part}))
		}
	}
	for _, n := range waveLengths() {
		for range 1 + 100/n {
			list, parts := drawnZ(uint64(draw.next()), n), drawnParts(&draw, n)
			holdPhase(t, "drawn", list, parts, phasedByWords(list, parts))
			list = edgeField(&draw, n, 3)
			holdPhase(t, "edges", list, parts, phasedByWords(list, parts))
		}
	}
}

// TestATurnMoreIsNotSeen: of parts, of drifts and of lenses.
func TestATurnMoreIsNotSeen(t *testing.T) {
	draw := numbers{state: 1212}
	for _, more := range []int64{impl.Turn, -impl.Turn, 3 * impl.Turn, -1000 * impl.Turn, 1 << 61, -1 << 61} {
		for _, n := range []int{1, 2, 4, 8, 64, 1024} {
			list, parts, later := edgeField(&draw, n, 6), []int64{}, []int64{}
			for range n {
				part := draw.next() / 4
				parts, later = append(parts, part), append(later, part+more)
			}
			holdPhase(t, "a turn more", list, later, impl.PhaseField(list, parts))
			holdDrift(t, "a turn more", list, later[0], impl.DriftField(list, parts[0]))
			holdBent(t, int64(n), later[0], impl.BentPhases(int64(n), parts[0]))
		}
	}
	for _, n := range []int64{1, 2, 3, 5, 512, 1000, 1024} {
		holdBent(t, n, math.MinInt64, make([]int64, n))
		holdBent(t, n, math.MaxInt64, impl.BentPhases(n, -1))
		holdBent(t, n, impl.Turn, make([]int64, n))
	}
	for _, n := range waveLengths() {
		list := edgeField(&draw, n, 6)
		holdDrift(t, "the least", list, math.MinInt64, impl.DriftField(list, 0))
		holdDrift(t, "the greatest", list, math.MaxInt64, impl.DriftField(list, -1))
		holdDrift(t, "a turn less", list, impl.Turn-1, impl.DriftField(list, -1))
		holdPhase(t, "the least", list, slices.Repeat([]int64{math.MinInt64}, n), impl.PhaseField(list, make([]int64, n)))
		holdPhase(t, "the greatest", list, slices.Repeat([]int64{math.MaxInt64}, n), impl.PhaseField(list, slices.Repeat([]int64{-1}, n)))
	}
}

func TestDriftFieldTold(t *testing.T) {
	below, inf, nan := nought(), math.Inf(1), math.NaN()
	holdDrift(t, "none", nil, 0, noField(impl.ErrForm))
	for _, parts := range edgeParts() {
		holdDrift(t, "one", []impl.Z{{Re: 3, Im: -4}}, parts, toldField(impl.Z{Re: 3, Im: -4}))
		// One number is turned by nothing, but multiplied.
		holdDrift(t, "one", []impl.Z{{Re: inf, Im: 1}}, parts, toldField(impl.Z{Re: inf, Im: nan}))
		holdDrift(t, "one", []impl.Z{{Re: below, Im: below}}, parts, toldField(impl.Z{Re: 0, Im: below}))
		// All that is alike has a spectrum of one number, at 0, which no drift turns.
		got := impl.DriftField([]impl.Z{{Re: 2, Im: 1}, {Re: 2, Im: 1}, {Re: 2, Im: 1}, {Re: 2, Im: 1}}, parts).List
		if !nearFields(got, slices.Repeat([]impl.Z{{Re: 2, Im: 1}}, 4), 0) {
			t.Error(parts, got)
		}
	}
	// Half a turn changes the two numbers about, a quarter shares them.
	holdDrift(t, "two", realField(1, 0), impl.Turn/2, toldField(impl.Z{Re: 0, Im: 0}, impl.Z{Re: 1, Im: 0}))
	holdDrift(t, "two", realField(1, 0), impl.Turn/4, toldField(impl.Z{Re: 0.5, Im: 0.5}, impl.Z{Re: 0.5, Im: -0.5}))
	holdDrift(t, "two", realField(1, 0), -impl.Turn/4, toldField(impl.Z{Re: 0.5, Im: -0.5}, impl.Z{Re: 0.5, Im: 0.5}))
	// Of four numbers, the one behind the middle is turned as the one ahead of it: d is 0, 1, 2, -1.
	holdDrift(t, "four", realField(1, 0, 0, 0), impl.Turn/4, toldField(impl.Z{Re: 0.5, Im: 0.5}, impl.Z{Re: 0, Im: 0}, impl.Z{Re: 0.5, Im: -0.5}, impl.Z{Re: 0, Im: 0}))
}

// TestDriftFieldAboveTheMiddle: the spectrum of a field that holds one of its numbers alone is turned by d d parts there, nearly; those above the middle count below 0.
func TestDriftFieldAboveTheMiddle(t *testing.T) {
	for _, n := range []int{2, 4, 8, 64, 1024} {
		for _, place := range []int{0, 1, n/2 - 1, n / 2, n/2 + 1, n - 1} {
			if place >= n {
				continue
			}
			unit := make([]impl.Z, n)
			unit[place] = impl.Z{Re: 1}
			for _, parts := range []int64{1, -1, 77, impl.Turn/int64(16*n) + 1} {
				wave := impl.FieldOf(unit).List
				d := driftedPlaces(n)[place]
				want := impl.PhaseField(wave, slices.Repeat([]int64{parts * d * d}, n)).List
				if !nearFields(impl.DriftField(wave, parts).List, want, 1e-13) {
					t.Errorf("number %d of %d is not turned by %d times %d parts", place, n, d*d, parts)
				}
			}
		}
	}
}

func TestDriftFieldByWords(t *testing.T) {
	draw := numbers{state: 1213}
	for _, n := range []int{0, 1, 2, 3, 4, 8, 16, 32, 1000, 1025, 2048} {
		for _, parts := range append(edgeParts(), draw.next(), draw.next()) {
			list := edgeField(&draw, n, int64(n)+2)
			holdDrift(t, "drawn", list, parts, driftByWords(list, parts))
		}
	}
	for _, n := range waveLengths() {
		for _, parts := range []int64{0, 1, -1, impl.Turn, impl.Turn + 1, math.MinInt64, math.MaxInt64, draw.next(), draw.below(impl.Turn)} {
			list := drawnZ(uint64(draw.next()), n)
			holdDrift(t, "drawn", list, parts, driftByWords(list, parts))
		}
	}
	for _, n := range []int{2, 4, 8} {
		for _, kind := range everyZ() {
			list := edgeField(&draw, n, 2)
			list[draw.below(int64(n))] = kind
			holdDrift(t, "kinds", list, 5, driftByWords(list, 5))
		}
	}
	holdDrift(t, "three", make([]impl.Z, 3), 1, noField(impl.ErrForm))
	holdDrift(t, "1025", make([]impl.Z, 1025), 1, noField(impl.ErrMany))
}

// TestDriftsAndLensesComeBackNearly: what is turned by parts is turned back by as many below 0, and no power is lost.
func TestDriftsAndLensesComeBackNearly(t *testing.T) {
	draw := numbers{state: 1214}
	for _, n := range waveLengths() {
		for _, parts := range []int64{0, 1, -1, 12345, impl.Turn / 8, draw.next() / 2} {
			list := plainField(&draw, n)
			there := impl.DriftField(impl.PhaseField(list, impl.BentPhases(int64(n), parts)).List, parts).List
			back := impl.PhaseField(impl.DriftField(there, -parts).List, impl.BentPhases(int64(n), -parts)).List
			if !nearFields(back, list, 1e-12) {
				t.Errorf("%d numbers do not come back from %d parts", n, parts)
			}
			power := impl.PowerOf(list)
			if far := impl.PowerOf(there) - power; !(math.Abs(far) <= 1e-12*power) {
				t.Errorf("the power of %d numbers is off by %v", n, far)
			}
		}
	}
}

func TestBentPhases(t *testing.T) {
	holdBent(t, 1, 5, []int64{0})
	holdBent(t, 2, 5, []int64{5, 0})
	holdBent(t, 3, 5, []int64{5, 0, 5})
	holdBent(t, 5, 1, []int64{4, 1, 0, 1, 4})
	holdBent(t, 4, -1, []int64{impl.Turn - 4, impl.Turn - 1, 0, impl.Turn - 1})
	holdBent(t, 3, impl.Turn/2, []int64{impl.Turn / 2, 0, impl.Turn / 2})
	holdBent(t, 4, impl.Turn/2, []int64{0, impl.Turn / 2, 0, impl.Turn / 2})
	if phases := impl.BentPhases(1024, 1); len(phases) != 1024 || phases[0] != 262144 || phases[512] != 0 || phases[1023] != 261121 {
		t.Error(phases)
	}
	for _, n := range []int64{0, -1, -2, -1024, 1025, 1026, 2048, 1 << 32, 1<<32 + 4, math.MinInt64, math.MinInt64 + 1, math.MaxInt64} {
		for _, parts := range edgeParts() {
			holdBent(t, n, parts, nil)
		}
	}
	for n := int64(1); n <= 40; n++ {
		for _, parts := range edgeParts() {
			holdBent(t, n, parts, bentByWords(n, parts))
		}
	}
	draw := numbers{state: 1215}
	for n := int64(-3); n <= 1030; n++ {
		for _, parts := range []int64{-1, math.MaxInt64, draw.next()} {
			want := bentByWords(n, parts)
			if got := impl.BentPhases(n, parts); !slices.Equal(got, want) {
				t.Errorf("BentPhases(%d, %d) = %s, want %s", n, parts, brief(got), brief(want))
			}
		}
	}
	for _, n := range []int64{999, 1000, 1023, 1024} {
		holdBent(t, n, math.MaxInt64, bentByWords(n, math.MaxInt64))
		holdBent(t, n, math.MinInt64, bentByWords(n, math.MinInt64))
	}
}
