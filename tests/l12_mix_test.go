package tests

import (
	"math"
	"slices"
	"testing"

	"loop.example/g00049/impl"
)

func normByWords(z impl.Z) float64 {
	return onceSum(onceProduct(z.Re, z.Re), onceProduct(z.Im, z.Im))
}

func powerByWords(list []impl.Z) float64 {
	power := 0.0
	for _, z := range list {
		power = onceSum(power, normByWords(z))
	}
	return power
}

// modesCode goes from field to field: its own fault, then whether it is as long as the first.
func modesCode(fields [][]impl.Z) int64 {
	if len(fields) > 16 {
		return impl.ErrMany
	}
	if len(fields) == 0 {
		return impl.ErrForm
	}
	for _, field := range fields {
		if code := fieldCode(len(field)); code != impl.OK {
			return code
		}
		if len(field) != len(fields[0]) {
			return impl.ErrForm
		}
	}
	return impl.OK
}

func mixByWords(fields [][]impl.Z) impl.ZList {
	if code := modesCode(fields); code != impl.OK {
		return noField(code)
	}
	mix := []impl.Z{}
	for j := range fields[0] {
		numbers := []impl.Z{}
		for _, field := range fields {
			numbers = append(numbers, field[j])
		}
		mix = append(mix, impl.Z{Re: powerByWords(numbers)})
	}
	return toldField(mix...)
}

func holdPower(t *testing.T, what string, list []impl.Z, want float64) {
	t.Helper()
	kept := bitsOfField(list)
	for range 2 {
		holdFloat(t, what+", PowerOf", impl.PowerOf(list), want)
	}
	if !slices.Equal(kept, bitsOfField(list)) {
		t.Errorf("%s: PowerOf changes its field", what)
	}
}

// holdMix looks at the list of fields, too: each is where it was, with the same memory.
func holdMix(t *testing.T, what string, fields [][]impl.Z, want impl.ZList) {
	t.Helper()
	kept := slices.Clone(fields[:cap(fields)])
	holdField(t, what+", MixModes", func() impl.ZList { return impl.MixModes(fields) }, want, fields...)
	for i, field := range fields[:cap(fields)] {
		if len(field) != len(kept[i]) || len(field) > 0 && &field[0] != &kept[i][0] {
			t.Errorf("%s: field %d is another one", what, i)
		}
	}
	for _, z := range impl.MixModes(fields).List {
		if math.Float64bits(z.Im) != 0 {
			t.Errorf("%s: Im is %v", what, z.Im)
		}
	}
}

func TestPowerOfTold(t *testing.T) {
	below, inf, nan := nought(), math.Inf(1), math.NaN()
	for _, one := range []struct {
		list []impl.Z
		want float64
	}{
		{nil, 0}, {[]impl.Z{}, 0}, {[]impl.Z{{Re: 3, Im: 4}}, 25}, {[]impl.Z{{Re: -3, Im: -4}, {Re: 1}, {Im: -2}}, 30}, {[]impl.Z{{Re: below, Im: below}}, 0}, {[]impl.Z{{}, {Re: below}}, 0},
		{[]impl.Z{{Re: inf}}, inf}, {[]impl.Z{{Re: -inf, Im: inf}, {Re: 1}}, inf}, {[]impl.Z{{Re: nan}}, nan}, {[]impl.Z{{Re: inf, Im: nan}}, nan}, {[]impl.Z{{Re: 1}, {Im: nan}, {Re: inf}}, nan},
		{[]impl.Z{{Re: 1e200}}, inf}, {[]impl.Z{{Re: 1e-200, Im: -1e-200}}, 0}, {[]impl.Z{{Re: 0x1p-537}}, 5e-324},
		// 2^53 and 1 together are rounded down to 2^53 each time; 1 and 1 ahead of it are not lost.
		{[]impl.Z{{Re: 0x1p26, Im: 0x1p26}, {Re: 1}, {Re: 1}}, 0x1p53}, {[]impl.Z{{Re: 1}, {Re: 1}, {Re: 0x1p26, Im: 0x1p26}}, 0x1p53 + 2}, {[]impl.Z{{Re: 1, Im: 1}, {Re: 0x1p26, Im: 0x1p26}}, 0x1p53 + 2},
		// A number's own squares are put together ahead of adding them: 1 and 1 are not lost one by one.
		{[]impl.Z{{Re: 0x1p26, Im: 0x1p26}, {Re: 1, Im: 1}}, 0x1p53 + 2},
	} {
		holdPower(t, "told", roomy(one.list, impl.Z{Re: 9, Im: 9}), one.want)
	}
	holdPower(t, "nil", nil, 0)
}

// TestPowerOfInItsOrder: lists of any length, those too that are no fields.
func TestPowerOfInItsOrder(t *testing.T) {
	draw := numbers{state: 1230}
	for _, n := range []int{1, 2, 3, 4, 5, 7, 16, 100, 1000, 1024, 1025, 2048} {
		for range 3 {
			list := drawnZ(uint64(draw.next()), n)
			holdPower(t, "drawn", list, powerByWords(list))
			list = edgeField(&draw, n, int64(4*n))
			holdPower(t, "edges", list, powerByWords(list))
		}
	}
	for _, z := range everyZ() {
		holdPower(t, "one", []impl.Z{z}, normByWords(z))
		holdPower(t, "behind another", []impl.Z{{Re: 0.1, Im: 0.3}, z}, onceSum(normByWords(impl.Z{Re: 0.1, Im: 0.3}), normByWords(z)))
	}
	for _, list := range zLists() {
		holdPower(t, "lists", list, powerByWords(list))
	}
	holdPower(t, "long", slices.Repeat([]impl.Z{{Re: 1, Im: -2}}, 100000), 500000)
}

func TestMixModesTold(t *testing.T) {
	below, inf, nan := nought(), math.Inf(1), math.NaN()
	holdMix(t, "two", [][]impl.Z{{{Re: 3, Im: 4}, {Re: 1}}, {{Im: 2}, {Re: -1, Im: -1}}}, toldField(realField(29, 3)...))
	holdMix(t, "one", [][]impl.Z{{{Re: 3, Im: 4}, {Re: below, Im: below}}}, toldField(realField(25, 0)...))
	holdMix(t, "one number", [][]impl.Z{{{Re: 1}}, {{Im: 1}}, {{Re: -1}}}, toldField(realField(3)...))
	holdMix(t, "infinite", [][]impl.Z{{{Re: inf}, {Re: 1}}, {{Im: -inf}, {Re: nan}}}, toldField(realField(inf, nan)...))
	holdMix(t, "in order", [][]impl.Z{{{Re: 0x1p26, Im: 0x1p26}, {Re: 1}}, {{Re: 1}, {Re: 1}}, {{Re: 1}, {Re: 0x1p26, Im: 0x1p26}}}, toldField(realField(0x1p53, 0x1p53+2)...))
	holdMix(t, "squares first", [][]impl.Z{{{Re: 0x1p26, Im: 0x1p26}}, {{Re: 1, Im: 1}}}, toldField(realField(0x1p53+2)...))
}

// fieldsOfLengths are fields of noughts of such lengths.
func fieldsOfLengths(lengths ...int) [][]impl.Z {
	fields := [][]impl.Z{}
	for _, n := range lengths {
		fields = append(fields, make([]impl.Z, n))
	}
	return fields
}

func TestMixModesFaults(t *testing.T) {
	form, many := noField(impl.ErrForm), noField(impl.ErrMany)
	holdMix(t, "none", nil, form)
	holdMix(t, "none", [][]impl.Z{}, form)
	holdMix(t, "none", fieldsOfLengths(1, 1)[:0], form)
	for count := 1; count <= 16; count++ {
		holdMix(t, "as many", fieldsOfLengths(slices.Repeat([]int{2}, count)...), toldField(impl.Z{}, impl.Z{}))
	}
	for _, count := range []int{17, 18, 100} {
		for _, n := range []int{0, 1, 3, 1024, 1025} {
			holdMix(t, "too many", fieldsOfLengths(slices.Repeat([]int{n}, count)...), many)
		}
	}
	holdMix(t, "too many, unlike long", fieldsOfLengths(append([]int{1}, slices.Repeat([]int{2}, 16)...)...), many)
	for _, one := range []struct {
		lengths []int
		want    impl.ZList
	}{
		{[]int{0}, form}, {[]int{3}, form}, {[]int{1000}, form}, {[]int{1025}, many}, {[]int{2048}, many},
		// A wrong field first, between and last.
		{[]int{3, 4, 4}, form}, {[]int{4, 3, 4}, form}, {[]int{4, 4, 3}, form}, {[]int{0, 4, 4}, form}, {[]int{4, 0, 4}, form}, {[]int{4, 4, 0}, form}, {[]int{1025, 4, 4}, many}, {[]int{4, 1025, 4}, many}, {[]int{4, 4, 1025}, many},
		// The first of two wrong ones is told.
		{[]int{3, 1025}, form}, {[]int{1025, 3}, many}, {[]int{4, 3, 1025}, form}, {[]int{4, 1025, 3}, many}, {[]int{0, 1025}, form}, {[]int{2048, 0}, many}, {[]int{3, 3}, form}, {[]int{1025, 1025}, many},
		// Unlike long ahead of and behind a wrong one.
		{[]int{4, 2, 1025}, form}, {[]int{4, 8, 1025}, form}, {[]int{4, 1025, 2}, many}, {[]int{1025, 4, 2}, many}, {[]int{4, 4, 2, 1025}, form}, {[]int{4, 2, 4}, form}, {[]int{4, 4, 2}, form}, {[]int{2, 4}, form}, {[]int{1024, 512}, form}, {[]int{1, 1024}, form}, {[]int{1024, 2048}, many}, {[]int{1, 2, 2048}, form},
	} {
		holdMix(t, "faults", fieldsOfLengths(one.lengths...), one.want)
		if code := modesCode(fieldsOfLengths(one.lengths...)); code != one.want.Code {
			t.Errorf("%v: code %d here, %d told", one.lengths, code, one.want.Code)
		}
	}
	behind := fieldsOfLengths(2, 2, 3)
	holdMix(t, "wrong behind the end", behind[:2], toldField(impl.Z{}, impl.Z{}))
}

func TestMixModesLengths(t *testing.T) {
	draw, lengths := numbers{state: 1231}, []int{0, 1, 2, 3, 4, 512, 1000, 1024, 1025}
	for range 400 {
		fields := [][]impl.Z{}
		n := lengths[draw.below(int64(len(lengths)))]
		for range 1 + draw.below(5) {
			if draw.below(4) == 0 {
				n = lengths[draw.below(int64(len(lengths)))]
			}
			fields = append(fields, make([]impl.Z, n))
		}
		if got := impl.MixModes(fields); got.Code != modesCode(fields) || got.Code != impl.OK && len(got.List) != 0 {
			t.Errorf("%s: code %d, want %d", brief(fields), got.Code, modesCode(fields))
		}
	}
}

func TestMixModesByWords(t *testing.T) {
	draw := numbers{state: 1232}
	for _, n := range []int{1, 2, 4, 8, 64, 1024} {
		for _, count := range []int{1, 2, 3, 15, 16} {
			if n*count > 4096 {
				continue
			}
			fields, edges := [][]impl.Z{}, [][]impl.Z{}
			for range count {
				fields, edges = append(fields, drawnZ(uint64(draw.next()), n)), append(edges, edgeField(&draw, n, 5))
			}
			holdMix(t, "drawn", fields, mixByWords(fields))
			holdMix(t, "edges", roomy(edges, make([]impl.Z, 3)), mixByWords(edges))
		}
	}
	one := drawnZ(1233, 8)
	holdMix(t, "the same field", [][]impl.Z{one, one, one}, mixByWords([][]impl.Z{one, one, one}))
}

// TestPowersAddUp: one field's mix are its norms; a mix's numbers are the powers of what the fields have there, and together they have the power of all.
func TestPowersAddUp(t *testing.T) {
	draw := numbers{state: 1234}
	for _, n := range waveLengths() {
		fields, power := [][]impl.Z{}, 0.0
		for range 1 + draw.below(6) {
			field := plainField(&draw, n)
			fields, power = append(fields, field), power+impl.PowerOf(field)
		}
		norms := []impl.Z{}
		for _, z := range fields[0] {
			norms = append(norms, impl.Z{Re: impl.NormZ(z)})
		}
		holdMix(t, "one field", fields[:1], toldField(norms...))
		all := 0.0
		for j, z := range impl.MixModes(fields).List {
			column := []impl.Z{}
			for _, field := range fields {
				column = append(column, field[j])
			}
			holdFloat(t, "a number of the mix", z.Re, impl.PowerOf(column))
			all += z.Re
		}
		if !(math.Abs(all-power) <= 1e-12*power) {
			t.Errorf("a mix of %d numbers has the power %v, its fields %v", n, all, power)
		}
		turned := impl.PhaseField(fields[0], drawnParts(&draw, n)).List
		if far := impl.PowerOf(turned) - impl.PowerOf(fields[0]); !(math.Abs(far) <= 1e-12*power) {
			t.Errorf("turned, %d numbers have a power that is off by %v", n, far)
		}
	}
}
