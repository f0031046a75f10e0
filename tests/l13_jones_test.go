package tests

import (
	"math"
	"math/big"
	"slices"
	"testing"

	"loop.example/g00049/impl"
)

// bigG is a complex whole number without bounds.
type bigG struct {
	re *big.Int
	im *big.Int
}

func bigGOf(g impl.G) bigG {
	return bigG{re: big.NewInt(g.Re), im: big.NewInt(g.Im)}
}

func (p bigG) plus(q bigG) bigG {
	return bigG{re: new(big.Int).Add(p.re, q.re), im: new(big.Int).Add(p.im, q.im)}
}

func (p bigG) times(q bigG) bigG {
	re := new(big.Int).Mul(p.re, q.re)
	im := new(big.Int).Mul(p.re, q.im)
	return bigG{re: re.Sub(re, new(big.Int).Mul(p.im, q.im)), im: im.Add(im, new(big.Int).Mul(p.im, q.re))}
}

// mirrored has the sign of Im turned.
func (p bigG) mirrored() bigG {
	return bigG{re: p.re, im: new(big.Int).Neg(p.im)}
}

// bigRows is a matrix of complex whole numbers; a light is one of a single column.
type bigRows [][]bigG

func bigLight(j impl.Jones) bigRows {
	return bigRows{{bigGOf(j.X)}, {bigGOf(j.Y)}}
}

func bigPlate(p impl.JonesPlate) bigRows {
	return bigRows{{bigGOf(p.A), bigGOf(p.B)}, {bigGOf(p.C), bigGOf(p.D)}}
}

func (a bigRows) times(b bigRows) bigRows {
	product := bigRows{}
	for i := range a {
		row := []bigG{}
		for j := range b[0] {
			row = append(row, a[i][0].times(b[0][j]).plus(a[i][1].times(b[1][j])))
		}
		product = append(product, row)
	}
	return product
}

// withinAmp asks each Re and Im of a light or a plate.
func (a bigRows) withinAmp() bool {
	for _, row := range a {
		for _, g := range row {
			if g.re.CmpAbs(big.NewInt(30000)) > 0 || g.im.CmpAbs(big.NewInt(30000)) > 0 {
				return false
			}
		}
	}
	return true
}

func (a bigRows) at(i int, j int) impl.G {
	return impl.G{Re: a[i][j].re.Int64(), Im: a[i][j].im.Int64()}
}

func passJonesByWords(p impl.JonesPlate, j impl.Jones) impl.JonesResult {
	behind := bigPlate(p).times(bigLight(j))
	if !bigPlate(p).withinAmp() || !bigLight(j).withinAmp() || !behind.withinAmp() {
		return impl.JonesResult{Code: impl.ErrRange}
	}
	return impl.JonesResult{Jones: impl.Jones{X: behind.at(0, 0), Y: behind.at(1, 0)}}
}

func chainByWords(list []impl.JonesPlate) impl.JonesPlateResult {
	if len(list) > 100 {
		return impl.JonesPlateResult{Code: impl.ErrMany}
	}
	chain := bigPlate(clearPlate())
	for _, p := range list {
		chain = bigPlate(p).times(chain)
		if !bigPlate(p).withinAmp() || !chain.withinAmp() {
			return impl.JonesPlateResult{Code: impl.ErrRange}
		}
	}
	return impl.JonesPlateResult{Plate: impl.JonesPlate{A: chain.at(0, 0), B: chain.at(0, 1), C: chain.at(1, 0), D: chain.at(1, 1)}}
}

func lightOf(xRe int64, xIm int64, yRe int64, yIm int64) impl.Jones {
	return impl.Jones{X: impl.G{Re: xRe, Im: xIm}, Y: impl.G{Re: yRe, Im: yIm}}
}

// plainPlate has no Im.
func plainPlate(a int64, b int64, c int64, d int64) impl.JonesPlate {
	return impl.JonesPlate{A: impl.G{Re: a}, B: impl.G{Re: b}, C: impl.G{Re: c}, D: impl.G{Re: d}}
}

func clearPlate() impl.JonesPlate {
	return plainPlate(1, 0, 0, 1)
}

func partsOfLight(j *impl.Jones) []*int64 {
	return []*int64{&j.X.Re, &j.X.Im, &j.Y.Re, &j.Y.Im}
}

func partsOfJonesPlate(p *impl.JonesPlate) []*int64 {
	return []*int64{&p.A.Re, &p.A.Im, &p.B.Re, &p.B.Im, &p.C.Re, &p.C.Im, &p.D.Re, &p.D.Im}
}

// drawnAmp draws a number from -most to most, both bounds often.
func drawnAmp(draw *numbers, most int64) int64 {
	switch draw.below(8) {
	case 0:
		return most
	case 1:
		return -most
	case 2:
		return 0
	}
	return draw.below(2*most+1) - most
}

func drawnLight(draw *numbers, most int64) impl.Jones {
	j := impl.Jones{}
	for _, part := range partsOfLight(&j) {
		*part = drawnAmp(draw, most)
	}
	return j
}

func drawnJonesPlate(draw *numbers, most int64) impl.JonesPlate {
	p := impl.JonesPlate{}
	for _, part := range partsOfJonesPlate(&p) {
		*part = drawnAmp(draw, most)
	}
	return p
}

// ampCases are numbers and whether they are an amplitude.
func ampCases() map[int64]bool {
	return map[int64]bool{
		0: true, 1: true, -1: true, 29999: true, -29999: true, 30000: true, -30000: true,
		30001: false, -30001: false, 30002: false, 60000: false, -60000: false, 1 << 16: false, 1 << 32: false, -1 << 32: false, 1<<32 + 1: false, 1 << 62: false,
		math.MaxInt64: false, math.MinInt64: false, math.MaxInt64 - 1: false, math.MinInt64 + 1: false, math.MaxInt32: false, math.MinInt32: false,
	}
}

// wrongAmps are numbers that no light and no plate may have.
func wrongAmps() []int64 {
	return []int64{30001, -30001, math.MaxInt64, math.MinInt64}
}

// wrongLights have one wrong number each.
func wrongLights() []impl.Jones {
	list := []impl.Jones{}
	for place := range 4 {
		for _, number := range wrongAmps() {
			j := lightOf(1, -2, 3, 4)
			*partsOfLight(&j)[place] = number
			list = append(list, j)
		}
	}
	return list
}

// wrongJonesPlates have one wrong number each.
func wrongJonesPlates() []impl.JonesPlate {
	list := []impl.JonesPlate{}
	for place := range 8 {
		for _, number := range wrongAmps() {
			p := plainPlate(1, 2, -3, 4)
			*partsOfJonesPlate(&p)[place] = number
			list = append(list, p)
		}
	}
	return list
}

func codeFor(right bool) int64 {
	if right {
		return impl.OK
	}
	return impl.ErrRange
}

func holdPassJones(t *testing.T, p impl.JonesPlate, j impl.Jones, want impl.JonesResult) {
	t.Helper()
	for range 2 {
		if got := impl.PassJones(p, j); got != want {
			t.Errorf("PassJones(%v, %v) = %v, want %v", p, j, got, want)
		}
	}
}

// holdChain looks at the list behind its end, too.
func holdChain(t *testing.T, what string, list []impl.JonesPlate, want impl.JonesPlateResult) {
	t.Helper()
	list = roomy(list, plainPlate(9, 8, 7, 6))
	kept := slices.Clone(list[:cap(list)])
	for range 2 {
		if got := impl.ChainJones(list); got != want {
			t.Errorf("%s: ChainJones(%s) = %v, want %v", what, brief(list), got, want)
		}
	}
	if !slices.Equal(kept, list[:cap(list)]) {
		t.Errorf("%s: ChainJones changes its list", what)
	}
}

func TestPolarBounds(t *testing.T) {
	if impl.MaxAmp != 30000 {
		t.Error(impl.MaxAmp)
	}
	kinds := []int64{impl.JonesAlong, impl.JonesAcross, impl.JonesQuarter, impl.JonesHalf, impl.JonesTurn, impl.JonesDim}
	if !slices.Equal(kinds, []int64{1, 2, 3, 4, 5, 6}) {
		t.Error(kinds)
	}
}

func TestJonesFault(t *testing.T) {
	for number, right := range ampCases() {
		for place := range 4 {
			for _, j := range []impl.Jones{{}, lightOf(1, 2, 3, 4), lightOf(30000, -30000, -30000, 30000)} {
				*partsOfLight(&j)[place] = number
				if got := impl.JonesFault(j); got != codeFor(right) {
					t.Errorf("JonesFault(%v) = %d", j, got)
				}
			}
		}
		if got := impl.JonesFault(lightOf(number, number, number, number)); got != codeFor(right) {
			t.Errorf("JonesFault of %d alone = %d", number, got)
		}
	}
}

func TestPlateFault(t *testing.T) {
	for number, right := range ampCases() {
		for place := range 8 {
			for _, p := range []impl.JonesPlate{{}, plainPlate(1, 2, 3, 4), plainPlate(30000, -30000, -30000, 30000)} {
				*partsOfJonesPlate(&p)[place] = number
				if got := impl.PlateFault(p); got != codeFor(right) {
					t.Errorf("PlateFault(%v) = %d", p, got)
				}
			}
		}
	}
	all := impl.JonesPlate{}
	for _, part := range partsOfJonesPlate(&all) {
		*part = -30000
	}
	if got := impl.PlateFault(all); got != impl.OK {
		t.Error(got)
	}
}

func TestPlateOf(t *testing.T) {
	one, back, i := impl.G{Re: 1}, impl.G{Re: -1}, impl.G{Im: 1}
	for kind, want := range map[int64]impl.JonesPlate{
		impl.JonesAlong: {A: one}, impl.JonesAcross: {D: one}, impl.JonesQuarter: {A: one, D: i}, impl.JonesHalf: {A: one, D: back},
		impl.JonesTurn: {B: back, C: one}, impl.JonesDim: {A: one, B: one, C: one, D: one},
		0: {}, 7: {}, 8: {}, -1: {}, -2: {}, -6: {}, 257: {}, 1<<32 + 1: {}, 1<<32 + 6: {}, math.MaxInt64: {}, math.MinInt64: {}, math.MinInt64 + 1: {},
	} {
		for range 2 {
			if got := impl.PlateOf(kind); got != want {
				t.Errorf("PlateOf(%d) = %v, want %v", kind, got, want)
			}
		}
	}
}

func TestPlatesOfEveryKindPass(t *testing.T) {
	for _, one := range []struct {
		kind int64
		want impl.Jones
	}{
		{impl.JonesAlong, lightOf(2, 3, 0, 0)}, {impl.JonesAcross, lightOf(0, 0, 5, -7)}, {impl.JonesQuarter, lightOf(2, 3, 7, 5)}, {impl.JonesHalf, lightOf(2, 3, -5, 7)},
		{impl.JonesTurn, lightOf(-5, 7, 2, 3)}, {impl.JonesDim, lightOf(7, -4, 7, -4)}, {0, impl.Jones{}}, {7, impl.Jones{}},
	} {
		holdPassJones(t, impl.PlateOf(one.kind), lightOf(2, 3, 5, -7), impl.JonesResult{Jones: one.want})
	}
	// Stage 13's shared test has this one, too.
	holdPassJones(t, impl.PlateOf(impl.JonesQuarter), lightOf(1, 0, 1, 0), impl.JonesResult{Jones: lightOf(1, 0, 0, 1)})
}

func TestPassJonesTold(t *testing.T) {
	p := impl.JonesPlate{A: impl.G{Re: 1, Im: 2}, B: impl.G{Re: 3, Im: -4}, C: impl.G{Re: -5, Im: 6}, D: impl.G{Re: 7, Im: 8}}
	// (1+2i)(1+i) is -1+3i, (3-4i)(2-i) is 2-11i; (-5+6i)(1+i) is -11+i, (7+8i)(2-i) is 22+9i.
	holdPassJones(t, p, lightOf(1, 1, 2, -1), impl.JonesResult{Jones: lightOf(1, -8, 11, 10)})
	holdPassJones(t, p, impl.Jones{}, impl.JonesResult{})
	holdPassJones(t, impl.JonesPlate{}, lightOf(30000, -30000, 30000, -30000), impl.JonesResult{})
	holdPassJones(t, clearPlate(), lightOf(30000, -30000, -30000, 30000), impl.JonesResult{Jones: lightOf(30000, -30000, -30000, 30000)})
	// Each product is out of bounds, their sum is not.
	holdPassJones(t, plainPlate(2, -2, 30000, -30000), lightOf(30000, -30000, 30000, -30000), impl.JonesResult{})
	holdPassJones(t, plainPlate(30000, 30000, 1, 1), lightOf(15001, 15001, -15000, -15000), impl.JonesResult{Jones: lightOf(30000, 30000, 1, 1)})
}

// TestPassJonesAtTheBounds brings each of the four numbers to MaxAmp and one beyond, by each of the four products of Re and Im that it is made of.
func TestPassJonesAtTheBounds(t *testing.T) {
	units := []impl.G{{Re: 1}, {Re: -1}, {Im: 1}, {Im: -1}}
	seen := map[int64]int{}
	for _, a := range units {
		for _, x := range units {
			for _, y := range units {
				for _, more := range []int64{-1, 0, 1} {
					light := impl.Jones{X: impl.G{Re: 30000 * x.Re, Im: 30000 * x.Im}, Y: impl.G{Re: more * y.Re, Im: more * y.Im}}
					for _, p := range []impl.JonesPlate{{A: a, B: a}, {C: a, D: a}, {A: a, B: a, D: a}} {
						want := passJonesByWords(p, light)
						seen[want.Code]++
						holdPassJones(t, p, light, want)
						light.X, light.Y = light.Y, light.X
						holdPassJones(t, p, light, passJonesByWords(p, light))
					}
				}
			}
		}
	}
	if seen[impl.OK] == 0 || seen[impl.ErrRange] == 0 {
		t.Error(seen)
	}
	beyond := impl.JonesResult{Code: impl.ErrRange}
	holdPassJones(t, plainPlate(1, 1, 0, 0), lightOf(30000, 0, 0, 0), impl.JonesResult{Jones: lightOf(30000, 0, 0, 0)})
	holdPassJones(t, plainPlate(1, 1, 0, 0), lightOf(30000, 0, 1, 0), beyond)
	holdPassJones(t, plainPlate(1, 1, 0, 0), lightOf(0, -30000, 0, -1), beyond)
	holdPassJones(t, plainPlate(0, 0, 1, 1), lightOf(-30000, 0, -1, 0), beyond)
	holdPassJones(t, plainPlate(0, 0, 1, 1), lightOf(0, 1, 0, 30000), beyond)
	holdPassJones(t, plainPlate(3, 0, 0, 0), lightOf(10000, -10000, 30000, 30000), impl.JonesResult{Jones: lightOf(30000, -30000, 0, 0)})
	holdPassJones(t, plainPlate(3, 0, 0, 0), lightOf(10001, 0, 0, 0), beyond)
}

func TestPassJonesOfWrongOnes(t *testing.T) {
	beyond := impl.JonesResult{Code: impl.ErrRange}
	for _, p := range wrongJonesPlates() {
		holdPassJones(t, p, lightOf(1, 2, 3, 4), beyond)
		holdPassJones(t, p, impl.Jones{}, beyond)
		for _, j := range wrongLights() {
			holdPassJones(t, p, j, beyond)
		}
	}
	for _, j := range wrongLights() {
		holdPassJones(t, clearPlate(), j, beyond)
		holdPassJones(t, impl.JonesPlate{}, j, beyond)
		holdPassJones(t, impl.PlateOf(impl.JonesDim), j, beyond)
	}
}

func TestPassJonesByWords(t *testing.T) {
	draw, seen := numbers{state: 1301}, map[int64]int{}
	for range 4000 {
		plates, lights := []int64{1, 3, 200, 30000, 30001}, []int64{1, 20, 200, 30000, 30001}
		p, j := drawnJonesPlate(&draw, plates[draw.below(5)]), drawnLight(&draw, lights[draw.below(5)])
		want := passJonesByWords(p, j)
		seen[want.Code]++
		holdPassJones(t, p, j, want)
	}
	if seen[impl.OK] < 500 || seen[impl.ErrRange] < 500 {
		t.Error(seen)
	}
}

func TestChainJonesTold(t *testing.T) {
	along, quarter, half, turn, dim := impl.PlateOf(impl.JonesAlong), impl.PlateOf(impl.JonesQuarter), impl.PlateOf(impl.JonesHalf), impl.PlateOf(impl.JonesTurn), impl.PlateOf(impl.JonesDim)
	told := func(p impl.JonesPlate) impl.JonesPlateResult { return impl.JonesPlateResult{Plate: p} }
	holdChain(t, "none", nil, told(clearPlate()))
	holdChain(t, "none", []impl.JonesPlate{}, told(clearPlate()))
	if got := impl.ChainJones(nil); got != told(clearPlate()) {
		t.Error("nil", got)
	}
	for kind := range int64(8) {
		holdChain(t, "one", []impl.JonesPlate{impl.PlateOf(kind)}, told(impl.PlateOf(kind)))
	}
	holdChain(t, "two quarters", []impl.JonesPlate{quarter, quarter}, told(half))
	holdChain(t, "two turns", []impl.JonesPlate{turn, turn}, told(plainPlate(-1, 0, 0, -1)))
	// Light goes through the first one first: what was along is turned across, what is turned along was across.
	holdChain(t, "along, turned", []impl.JonesPlate{along, turn}, told(plainPlate(0, 0, 1, 0)))
	holdChain(t, "turned, along", []impl.JonesPlate{turn, along}, told(plainPlate(0, -1, 0, 0)))
	holdChain(t, "three", []impl.JonesPlate{plainPlate(1, 2, 3, 4), plainPlate(0, 1, 1, 0), plainPlate(1, 0, 5, 1)}, told(plainPlate(3, 4, 16, 22)))
	holdChain(t, "with i", []impl.JonesPlate{dim, quarter, turn}, told(impl.JonesPlate{A: impl.G{Im: -1}, B: impl.G{Im: -1}, C: impl.G{Re: 1}, D: impl.G{Re: 1}}))
}

func TestNumbersOfPlatesInAChain(t *testing.T) {
	turn, many := impl.PlateOf(impl.JonesTurn), impl.JonesPlateResult{Code: impl.ErrMany}
	for _, count := range []int{1, 2, 3, 4, 50, 98, 99, 100} {
		want := clearPlate()
		for range count % 4 {
			want = plainPlate(-want.C.Re, -want.D.Re, want.A.Re, want.B.Re)
		}
		holdChain(t, "turns", slices.Repeat([]impl.JonesPlate{turn}, count), impl.JonesPlateResult{Plate: want})
	}
	for _, count := range []int{101, 102, 200, 1000} {
		holdChain(t, "too many", slices.Repeat([]impl.JonesPlate{turn}, count), many)
		holdChain(t, "too many, all wrong", slices.Repeat([]impl.JonesPlate{plainPlate(30001, 0, 0, 0)}, count), many)
		holdChain(t, "too many, on the way out of bounds", slices.Repeat([]impl.JonesPlate{plainPlate(30000, 0, 0, 0)}, count), many)
		for _, at := range []int{0, 1, 50, 100, count - 1} {
			list := slices.Repeat([]impl.JonesPlate{turn}, count)
			list[at] = plainPlate(0, math.MinInt64, 0, 0)
			holdChain(t, "too many, one wrong", list, many)
		}
	}
	behind := slices.Repeat([]impl.JonesPlate{turn}, 101)
	if got := impl.ChainJones(behind[:100]); got != (impl.JonesPlateResult{Plate: clearPlate()}) {
		t.Error("more behind the end", got)
	}
}

func TestChainsWithWrongPlates(t *testing.T) {
	beyond := impl.JonesPlateResult{Code: impl.ErrRange}
	for _, wrong := range wrongJonesPlates() {
		holdChain(t, "alone", []impl.JonesPlate{wrong}, beyond)
		for _, count := range []int{2, 3, 100} {
			for _, at := range []int{0, count / 2, count - 1} {
				for _, other := range []impl.JonesPlate{clearPlate(), impl.PlateOf(impl.JonesTurn), {}} {
					list := slices.Repeat([]impl.JonesPlate{other}, count)
					list[at] = wrong
					holdChain(t, "one wrong", list, beyond)
				}
			}
		}
		holdChain(t, "behind a product out of bounds", []impl.JonesPlate{plainPlate(30000, 0, 0, 0), plainPlate(2, 0, 0, 0), wrong}, beyond)
		holdChain(t, "twice", []impl.JonesPlate{wrong, wrong}, beyond)
	}
}

func TestProductsOfChainsOnTheWay(t *testing.T) {
	beyond, dim := impl.JonesPlateResult{Code: impl.ErrRange}, impl.PlateOf(impl.JonesDim)
	greatest, twice, nothing := plainPlate(30000, 30000, 30000, 30000), plainPlate(2, 0, 0, 2), impl.JonesPlate{}
	holdChain(t, "greatest", []impl.JonesPlate{greatest}, impl.JonesPlateResult{Plate: greatest})
	holdChain(t, "doubled", []impl.JonesPlate{greatest, twice}, beyond)
	// What comes later would bring it back within its bounds.
	holdChain(t, "doubled, then nothing", []impl.JonesPlate{greatest, twice, nothing}, beyond)
	holdChain(t, "doubled, then taken away", []impl.JonesPlate{greatest, dim, plainPlate(1, -1, 1, -1)}, beyond)
	holdChain(t, "nothing, then greatest", []impl.JonesPlate{nothing, twice, greatest, greatest}, impl.JonesPlateResult{})
	holdChain(t, "taken away at once", []impl.JonesPlate{greatest, plainPlate(30000, -30000, 30000, -30000)}, impl.JonesPlateResult{})
	for count := 1; count <= 17; count++ {
		power := int64(1) << (count - 1)
		want := impl.JonesPlateResult{Plate: plainPlate(power, power, power, power)}
		if count > 15 {
			want = beyond
		}
		holdChain(t, "dim ones", slices.Repeat([]impl.JonesPlate{dim}, count), want)
	}
	for place := range 8 {
		for _, size := range []int64{15000, -15000, 15001, -15001} {
			p := impl.JonesPlate{}
			*partsOfJonesPlate(&p)[place] = size
			want := beyond
			if size == 15000 || size == -15000 {
				want = impl.JonesPlateResult{}
				*partsOfJonesPlate(&want.Plate)[place] = 2 * size
			}
			holdChain(t, "one number at the bounds", []impl.JonesPlate{p, twice}, want)
			holdChain(t, "one number at the bounds", []impl.JonesPlate{twice, p}, want)
			if want == beyond {
				holdChain(t, "one number, then nothing", []impl.JonesPlate{p, twice, nothing}, beyond)
			}
		}
	}
}

func TestChainJonesByWords(t *testing.T) {
	draw, seen := numbers{state: 1302}, map[int64]int{}
	for range 2000 {
		list := []impl.JonesPlate{}
		for range draw.below(8) {
			list = append(list, drawnJonesPlate(&draw, []int64{1, 2, 5, 100, 30000}[draw.below(5)]))
		}
		if draw.below(20) == 0 {
			list = append(list, drawnJonesPlate(&draw, 30001))
		}
		want := chainByWords(list)
		seen[want.Code]++
		holdChain(t, "drawn", list, want)
	}
	for range 300 {
		list := []impl.JonesPlate{}
		for range 90 + draw.below(13) {
			list = append(list, impl.PlateOf(3+draw.below(3)))
		}
		want := chainByWords(list)
		seen[want.Code]++
		holdChain(t, "long", list, want)
	}
	if seen[impl.OK] < 200 || seen[impl.ErrRange] < 200 || seen[impl.ErrMany] == 0 {
		t.Error(seen)
	}
}

// TestChainsPassAsTheirPlates: what a chain does is what its plates do one after the other, the first one first; and chains are joined by chaining them.
func TestChainsPassAsTheirPlates(t *testing.T) {
	draw, held := numbers{state: 1303}, 0
	for range 1000 {
		list := []impl.JonesPlate{}
		for range draw.below(6) {
			list = append(list, drawnJonesPlate(&draw, 1+draw.below(6)))
		}
		light := drawnLight(&draw, 20)
		chain, told := impl.ChainJones(list), impl.JonesResult{Jones: light}
		for _, p := range list {
			if told.Code == impl.OK {
				told = impl.PassJones(p, told.Jones)
			}
		}
		if chain.Code != impl.OK || told.Code != impl.OK {
			continue
		}
		held++
		holdPassJones(t, chain.Plate, light, told)
		cut := int(draw.below(int64(len(list) + 1)))
		first, second := impl.ChainJones(list[:cut]), impl.ChainJones(list[cut:])
		if second.Code == impl.OK {
			holdChain(t, "joined", []impl.JonesPlate{first.Plate, second.Plate}, chain)
		}
	}
	if held < 300 {
		t.Error(held)
	}
}

func TestMirrorPlate(t *testing.T) {
	plates := append(wrongJonesPlates(), impl.JonesPlate{}, clearPlate(), plainPlate(math.MinInt64, math.MaxInt64, math.MinInt64, -1))
	for kind := range int64(8) {
		plates = append(plates, impl.PlateOf(kind))
	}
	draw := numbers{state: 1304}
	for range 200 {
		p := drawnJonesPlate(&draw, 30000)
		for _, part := range partsOfJonesPlate(&p) {
			if draw.below(4) == 0 {
				*part = draw.next()
			}
		}
		plates = append(plates, p)
	}
	for _, p := range plates {
		mirrored := impl.MirrorPlate(p)
		if mirrored != (impl.JonesPlate{A: p.A, B: p.C, C: p.B, D: p.D}) {
			t.Errorf("MirrorPlate(%v) = %v", p, mirrored)
		}
		if twice := impl.MirrorPlate(mirrored); twice != p {
			t.Errorf("%v, mirrored twice, is %v", p, twice)
		}
	}
	told := impl.JonesPlate{A: impl.G{Re: 1, Im: 2}, B: impl.G{Re: 3, Im: 4}, C: impl.G{Re: 5, Im: 6}, D: impl.G{Re: 7, Im: 8}}
	if got := impl.MirrorPlate(told); got != (impl.JonesPlate{A: impl.G{Re: 1, Im: 2}, B: impl.G{Re: 5, Im: 6}, C: impl.G{Re: 3, Im: 4}, D: impl.G{Re: 7, Im: 8}}) {
		t.Error(got)
	}
}

// TestTheWayBackIsMirrored: light that comes back meets the mirrored plates from the last one on, and that is the mirrored chain.
func TestTheWayBackIsMirrored(t *testing.T) {
	draw, held := numbers{state: 1305}, 0
	for range 1000 {
		list, back := []impl.JonesPlate{}, []impl.JonesPlate{}
		for range draw.below(6) {
			p := drawnJonesPlate(&draw, 1+draw.below(6))
			list, back = append(list, p), append([]impl.JonesPlate{impl.MirrorPlate(p)}, back...)
		}
		there, home := impl.ChainJones(list), impl.ChainJones(back)
		if there.Code != impl.OK || home.Code != impl.OK {
			continue
		}
		held++
		if home.Plate != impl.MirrorPlate(there.Plate) {
			t.Errorf("%v: there %v, back %v", list, there.Plate, home.Plate)
		}
	}
	if held < 300 {
		t.Error(held)
	}
}
