package tests

import (
	"math"
	"math/cmplx"
	"runtime"
	"slices"
	"sync"
	"testing"
	"time"

	"loop.example/g00049/impl"
)

// fieldCode is the fault of one field.
func fieldCode(length int) int64 {
	switch {
	case length > 1024:
		return impl.ErrMany
	case !slices.Contains(waveLengths(), length):
		return impl.ErrForm
	}
	return impl.OK
}

func lessByWords(a impl.Z, b impl.Z) impl.Z {
	return impl.Z{Re: a.Re - b.Re, Im: a.Im - b.Im}
}

// fieldSumsByWords is the document's S; sign is that of its turns, of which each half asks for its own.
func fieldSumsByWords(roots []impl.Z, list []impl.Z, sign int64) []impl.Z {
	if len(list) == 1 {
		return []impl.Z{list[0]}
	}
	halves := [2][]impl.Z{}
	for i, z := range list {
		halves[i%2] = append(halves[i%2], z)
	}
	a, b := fieldSumsByWords(roots, halves[0], sign), fieldSumsByWords(roots, halves[1], sign)
	ahead, behind := []impl.Z{}, []impl.Z{}
	for j := range a {
		t := mulByWords(turnByWords(roots, sign*(int64(j)*1048576/int64(len(list)))), b[j])
		ahead, behind = append(ahead, addByWords(a[j], t)), append(behind, lessByWords(a[j], t))
	}
	return append(ahead, behind...)
}

func spectrumByWords(list []impl.Z) impl.ZList {
	if code := fieldCode(len(list)); code != impl.OK {
		return noField(code)
	}
	return toldField(fieldSumsByWords(rootsByWords(), list, -1)...)
}

func fieldByWords(list []impl.Z) impl.ZList {
	if code := fieldCode(len(list)); code != impl.OK {
		return noField(code)
	}
	field, n := fieldSumsByWords(rootsByWords(), list, 1), float64(len(list))
	for i := range field {
		field[i] = impl.Z{Re: field[i].Re / n, Im: field[i].Im / n}
	}
	return toldField(field...)
}

func toldField(list ...impl.Z) impl.ZList {
	return impl.ZList{List: list}
}

func noField(code int64) impl.ZList {
	return impl.ZList{Code: code}
}

func sameField(a impl.ZList, b impl.ZList) bool {
	return a.Code == b.Code && slices.EqualFunc(a.List, b.List, sameZ)
}

// bitsOfField tell noughts and NaNs apart, those behind the list's end too.
func bitsOfField(list []impl.Z) []uint64 {
	bits := []uint64{}
	for _, z := range list[:cap(list)] {
		bits = append(bits, math.Float64bits(z.Re), math.Float64bits(z.Im))
	}
	return bits
}

// holdField asks twice, looks whether the fields are left alone, and whether they stay so when the first answer is written over.
func holdField(t *testing.T, what string, ask func() impl.ZList, want impl.ZList, fields ...[]impl.Z) {
	t.Helper()
	kept := [][]uint64{}
	for _, field := range fields {
		kept = append(kept, bitsOfField(field))
	}
	got, again := ask(), ask()
	if !sameField(got, want) || !sameField(again, want) {
		t.Errorf("%s: %s is %s, then %s, want %s", what, brief(fields), brief(got), brief(again), brief(want))
	}
	for i := range got.List[:cap(got.List)] {
		got.List[:cap(got.List)][i] = impl.Z{Re: -77.5, Im: 1e77}
	}
	if !sameField(again, want) {
		t.Errorf("%s: two answers share memory", what)
	}
	for i, field := range fields {
		if !slices.Equal(kept[i], bitsOfField(field)) {
			t.Errorf("%s: field %d is changed, or shares memory with the answer", what, i)
		}
	}
}

func holdSpectrum(t *testing.T, what string, list []impl.Z, want impl.ZList) {
	t.Helper()
	holdField(t, what+", SpectrumOf", func() impl.ZList { return impl.SpectrumOf(list) }, want, list)
}

func holdFieldOf(t *testing.T, what string, list []impl.Z, want impl.ZList) {
	t.Helper()
	holdField(t, what+", FieldOf", func() impl.ZList { return impl.FieldOf(list) }, want, list)
}

// plainField draws numbers of about one size, so that laws hold nearly.
func plainField(draw *numbers, n int) []impl.Z {
	list := []impl.Z{}
	for range n {
		list = append(list, impl.Z{Re: float64(draw.below(2000001)-1000000) / 1e6, Im: float64(draw.below(2000001)-1000000) / 1e6})
	}
	return list
}

// edgeField draws numbers of all kinds, one in so many of them an edge, and has room behind its end.
func edgeField(draw *numbers, n int, oneIn int64) []impl.Z {
	edges, list := partsOfZ(), []impl.Z{}
	part := func() float64 {
		if draw.below(oneIn) == 0 {
			return edges[draw.below(int64(len(edges)))]
		}
		return math.Ldexp(float64(draw.next()), int(draw.below(60))-90)
	}
	for range n {
		list = append(list, impl.Z{Re: part(), Im: part()})
	}
	return roomy(list, impl.Z{Re: 5, Im: math.NaN()})
}

// realField has numbers without an Im.
func realField(list ...float64) []impl.Z {
	field := []impl.Z{}
	for _, f := range list {
		field = append(field, impl.Z{Re: f})
	}
	return field
}

// nearFields looks whether no number is further off than so much.
func nearFields(a []impl.Z, b []impl.Z, far float64) bool {
	return slices.EqualFunc(a, b, func(x impl.Z, y impl.Z) bool {
		return math.Hypot(x.Re-y.Re, x.Im-y.Im) <= far
	})
}

func TestSpectrumExamplesOfTheStage(t *testing.T) {
	holdSpectrum(t, "two", realField(1, 1), toldField(impl.Z{Re: 2}, impl.Z{}))
	holdCoins(t, 1, 2, 100, impl.CoinResult{List: []int64{82, 86}, Next: 183136786})
	holdBent(t, 4, 3, []int64{12, 3, 0, 3})
	holdFloat(t, "PowerOf", impl.PowerOf([]impl.Z{{Re: 3, Im: 4}}), 25)
}

func TestSpectrumTold(t *testing.T) {
	below := nought()
	holdSpectrum(t, "two", []impl.Z{{Re: 3, Im: 1}, {Re: 5, Im: -7}}, toldField(impl.Z{Re: 8, Im: -6}, impl.Z{Re: -2, Im: 8}))
	holdFieldOf(t, "two", []impl.Z{{Re: 3, Im: 1}, {Re: 5, Im: -7}}, toldField(impl.Z{Re: 4, Im: -3}, impl.Z{Re: -1, Im: 4}))
	holdSpectrum(t, "four", realField(1, 2, 3, 4), toldField(impl.Z{Re: 10}, impl.Z{Re: -2, Im: 2}, impl.Z{Re: -2}, impl.Z{Re: -2, Im: -2}))
	holdFieldOf(t, "four", realField(1, 2, 3, 4), toldField(impl.Z{Re: 2.5}, impl.Z{Re: -0.5, Im: -0.5}, impl.Z{Re: -0.5}, impl.Z{Re: -0.5, Im: 0.5}))
	holdFieldOf(t, "four", []impl.Z{{Re: 10}, {Re: -2, Im: 2}, {Re: -2}, {Re: -2, Im: -2}}, toldField(realField(1, 2, 3, 4)...))
	// 1 at one place shows the turns: a spectrum's go down, a field's up.
	holdSpectrum(t, "unit", realField(0, 1, 0, 0), toldField(impl.Z{Re: 1}, impl.Z{Re: 0, Im: -1}, impl.Z{Re: -1}, impl.Z{Re: 0, Im: 1}))
	holdFieldOf(t, "unit", realField(0, 4, 0, 0), toldField(impl.Z{Re: 1}, impl.Z{Re: 0, Im: 1}, impl.Z{Re: -1}, impl.Z{Re: 0, Im: -1}))
	holdSpectrum(t, "noughts", []impl.Z{{Re: below, Im: below}, {Re: below, Im: below}}, toldField(impl.Z{Re: 0, Im: below}, impl.Z{Re: below, Im: 0}))
	holdFieldOf(t, "noughts", []impl.Z{{Re: below, Im: below}, {Re: below, Im: below}}, toldField(impl.Z{Re: 0, Im: below}, impl.Z{Re: below, Im: 0}))
}

// TestFieldOfDividesAtTheEnd: where dividing half by half would give another number.
func TestFieldOfDividesAtTheEnd(t *testing.T) {
	great, inf := impl.LargestFloat, math.Inf(1)
	holdFieldOf(t, "great", realField(great, great), toldField(impl.Z{Re: inf}, impl.Z{}))
	holdFieldOf(t, "great", []impl.Z{{Re: -great, Im: great}, {Re: 0, Im: great / 2}}, toldField(impl.Z{Re: -great / 2, Im: inf}, impl.Z{Re: -great / 2, Im: great / 4}))
	holdFieldOf(t, "small", realField(5e-324, 5e-324, 5e-324, 5e-324), toldField(realField(5e-324, 0, 0, 0)...))
	holdFieldOf(t, "small", realField(5e-324, 5e-324, 5e-324, 0), toldField(impl.Z{Re: 5e-324}, impl.Z{Re: 0, Im: 0}, impl.Z{Re: 0}, impl.Z{Re: 0, Im: nought()}))
	holdFieldOf(t, "small", realField(1e-323, 0, 0, 0), toldField(realField(0, 0, 0, 0)...))
}

func TestSpectrumWithoutBounds(t *testing.T) {
	inf, nan := math.Inf(1), math.NaN()
	holdSpectrum(t, "infinite ahead", realField(inf, 1), toldField(realField(inf, inf)...))
	// The turn is multiplied even where it is 1, and its 0 times the infinite one is NaN.
	holdSpectrum(t, "infinite behind", realField(1, inf), toldField(impl.Z{Re: inf, Im: nan}, impl.Z{Re: -inf, Im: nan}))
	holdFieldOf(t, "infinite behind", realField(1, -inf), toldField(impl.Z{Re: -inf, Im: nan}, impl.Z{Re: inf, Im: nan}))
	holdSpectrum(t, "both infinite", []impl.Z{{Re: inf, Im: 1}, {Re: 2, Im: inf}}, toldField(impl.Z{Re: nan, Im: inf}, impl.Z{Re: nan, Im: -inf}))
	holdSpectrum(t, "NaN ahead", []impl.Z{{Re: nan, Im: 1}, {Re: 2, Im: 3}}, toldField(impl.Z{Re: nan, Im: 4}, impl.Z{Re: nan, Im: -2}))
	holdSpectrum(t, "NaN behind", []impl.Z{{Re: 1, Im: 1}, {Re: nan, Im: 3}}, toldField(impl.Z{Re: nan, Im: nan}, impl.Z{Re: nan, Im: nan}))
	holdSpectrum(t, "great", realField(impl.LargestFloat, impl.LargestFloat), toldField(impl.Z{Re: inf}, impl.Z{}))
}

func TestSpectrumOfOneNumber(t *testing.T) {
	for _, z := range everyZ() {
		list := roomy([]impl.Z{z}, impl.Z{Re: 9, Im: 9})
		holdSpectrum(t, "one", list, toldField(z))
		holdFieldOf(t, "one", list, toldField(z))
	}
}

// TestFieldLengths: each length up to above the greatest, and some far above it.
func TestFieldLengths(t *testing.T) {
	lengths := []int{2047, 2048, 2049, 3000, 4096, 1 << 16}
	for n := range 1101 {
		lengths = append(lengths, n)
	}
	draw := numbers{state: 1200}
	for _, n := range lengths {
		list := edgeField(&draw, n, 5)
		holdSpectrum(t, "length", list, spectrumByWords(list))
		holdFieldOf(t, "length", list, fieldByWords(list))
		if code := fieldCode(n); impl.SpectrumOf(list).Code != code || impl.FieldOf(list).Code != code {
			t.Errorf("%d numbers: not code %d", n, code)
		}
	}
	holdSpectrum(t, "nil", nil, noField(impl.ErrForm))
	holdFieldOf(t, "nil", nil, noField(impl.ErrForm))
	holdSpectrum(t, "1000", make([]impl.Z, 1000), noField(impl.ErrForm))
	holdFieldOf(t, "1025", make([]impl.Z, 1025), noField(impl.ErrMany))
	holdSpectrum(t, "2048, too", make([]impl.Z, 2048), noField(impl.ErrMany))
}

func TestSpectrumByWords(t *testing.T) {
	draw := numbers{state: 1201}
	for _, n := range waveLengths() {
		for range 2 + 400/n {
			for _, list := range [][]impl.Z{drawnZ(uint64(draw.next()), n), plainField(&draw, n), edgeField(&draw, n, int64(2*n)), edgeField(&draw, n, 3)} {
				holdSpectrum(t, "drawn", list, spectrumByWords(list))
				holdFieldOf(t, "drawn", list, fieldByWords(list))
			}
		}
	}
}

// TestSpectrumOfEveryKind: numbers of every kind at each place of short fields.
func TestSpectrumOfEveryKind(t *testing.T) {
	draw := numbers{state: 1202}
	kinds := everyZ()
	for _, n := range []int{2, 4, 8} {
		for i := range 3 * len(kinds) {
			list := edgeField(&draw, n, 2)
			list[i%n] = kinds[i%len(kinds)]
			holdSpectrum(t, "kinds", list, spectrumByWords(list))
			holdFieldOf(t, "kinds", list, fieldByWords(list))
		}
		for _, kind := range kinds {
			list := slices.Repeat([]impl.Z{kind}, n)
			holdSpectrum(t, "alike", list, spectrumByWords(list))
			holdFieldOf(t, "alike", list, fieldByWords(list))
		}
	}
}

// TestSpectrumOfAUnit: 1 at one place is turned by the place's share of a turn, nearly.
func TestSpectrumOfAUnit(t *testing.T) {
	for _, n := range waveLengths() {
		for _, place := range []int{0, 1 % n, n / 2, n - 1, n * 2 / 3} {
			unit := make([]impl.Z, n)
			unit[place] = impl.Z{Re: 1}
			down, up := make([]impl.Z, n), make([]impl.Z, n)
			for j := range n {
				z := cmplx.Rect(1, 2*math.Pi*float64(place*j%n)/float64(n))
				down[j], up[j] = impl.Z{Re: real(z), Im: -imag(z)}, impl.Z{Re: real(z) / float64(n), Im: imag(z) / float64(n)}
			}
			if !nearFields(impl.SpectrumOf(unit).List, down, 1e-13) || !nearFields(impl.FieldOf(unit).List, up, 1e-13) {
				t.Errorf("the unit at %d of %d is turned elsewhere", place, n)
			}
		}
	}
}

// TestFieldsComeBackNearly: and a spectrum has n times the power of its field.
func TestFieldsComeBackNearly(t *testing.T) {
	draw := numbers{state: 1203}
	for _, n := range waveLengths() {
		list := plainField(&draw, n)
		spectrum, field := impl.SpectrumOf(list).List, impl.FieldOf(list).List
		if !nearFields(impl.FieldOf(spectrum).List, list, 1e-13) || !nearFields(impl.SpectrumOf(field).List, list, 1e-13) {
			t.Errorf("a field of %d numbers does not come back", n)
		}
		power := impl.PowerOf(list)
		if far := impl.PowerOf(spectrum)/float64(n) - power; !(math.Abs(far) <= 1e-13*power) {
			t.Errorf("the power of %d numbers is off by %v", n, far)
		}
	}
	// The turns of up to four numbers are whole, so whole numbers come back as they were.
	for _, n := range []int{1, 2, 4} {
		list := []impl.Z{}
		for range n {
			list = append(list, impl.Z{Re: float64(1 + draw.below(1e9)), Im: float64(-1 - draw.below(1e9))})
		}
		holdFieldOf(t, "whole", impl.SpectrumOf(list).List, toldField(list...))
		holdSpectrum(t, "whole", impl.FieldOf(list).List, toldField(list...))
	}
}

// holdSameBits asks again and again, several at a time, whatever the number of processors.
func holdSameBits(t *testing.T, what string, ask func() impl.ZList, want impl.ZList) {
	t.Helper()
	before := runtime.GOMAXPROCS(0)
	defer runtime.GOMAXPROCS(before)
	for _, processors := range []int{1, 2, 3, 8} {
		runtime.GOMAXPROCS(processors)
		wrong, group := make([]int, 6), sync.WaitGroup{}
		for i := range wrong {
			group.Go(func() {
				for range 15 {
					if !sameField(ask(), want) {
						wrong[i]++
					}
				}
			})
		}
		group.Wait()
		if slices.Max(wrong) > 0 {
			t.Errorf("%s: other bits on %d processors", what, processors)
		}
	}
}

func TestTransformsDoNotHangOnHowTheyRun(t *testing.T) {
	draw := numbers{state: 1204}
	for _, n := range []int{1, 2, 4, 64, 256, 1024} {
		list, parts := drawnZ(uint64(draw.next()), n), draw.next()
		kept := bitsOfField(list)
		holdSameBits(t, "SpectrumOf", func() impl.ZList { return impl.SpectrumOf(list) }, spectrumByWords(list))
		holdSameBits(t, "FieldOf", func() impl.ZList { return impl.FieldOf(list) }, fieldByWords(list))
		holdSameBits(t, "DriftField", func() impl.ZList { return impl.DriftField(list, parts) }, driftByWords(list, parts))
		if !slices.Equal(kept, bitsOfField(list)) {
			t.Errorf("a field of %d numbers is changed", n)
		}
	}
	holdSameBits(t, "Speckle", func() impl.ZList { return impl.Speckle(7, 5) }, speckleByWords(7, 5))
}

// TestWorkersEnd: after many calls there are as many goroutines as ahead of them. A worker that has sent its half may take a moment to leave.
func TestWorkersEnd(t *testing.T) {
	before := runtime.NumGoroutine()
	list := make([]impl.Z, 64)
	for range 200 {
		impl.SpectrumOf(list)
		impl.FieldOf(list)
		impl.DriftField(list, 3)
		impl.Speckle(5, 1)
		impl.SpectrumOf(list[:3])
		impl.FieldOf(nil)
		impl.Speckle(5, -1)
	}
	for range 2000 {
		if runtime.NumGoroutine() <= before {
			return
		}
		time.Sleep(time.Millisecond)
	}
	t.Errorf("%d goroutines, there were %d", runtime.NumGoroutine(), before)
}
