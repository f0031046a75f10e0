package tests

import (
	"math"
	"math/big"
	"slices"
	"testing"

	"loop.example/g00049/impl"
)

const (
	wholeTurn = 1048576
	halfTurn  = 524288
)

// wrapByWords goes by big numbers, so that nothing near the bounds of an int64 can leave them.
func wrapByWords(p int64) int64 {
	shifted := new(big.Int).Add(big.NewInt(p), big.NewInt(halfTurn))
	return new(big.Int).Mod(shifted, big.NewInt(wholeTurn)).Int64() - halfTurn
}

// stepByWords is the wrapped difference of one phase's wrapped one less that ahead.
func stepByWords(ahead int64, phase int64) int64 {
	return wrapByWords(wrapByWords(phase) - wrapByWords(ahead))
}

// goneOnByWords starts with a number of the answer that belongs to the first phase.
func goneOnByWords(start int64, list []int64) []int64 {
	row := []int64{start}
	for i := 1; i < len(list); i++ {
		row = append(row, row[i-1]+stepByWords(list[i-1], list[i]))
	}
	return row
}

func unwrapByWords(list []int64) []int64 {
	if len(list) == 0 {
		return nil
	}
	return goneOnByWords(wrapByWords(list[0]), list)
}

// wholeTurnsApart says whether two numbers differ by a multiple of a turn.
func wholeTurnsApart(a int64, b int64) bool {
	far := new(big.Int).Sub(big.NewInt(a), big.NewInt(b))
	return new(big.Int).Mod(far, big.NewInt(wholeTurn)).Sign() == 0
}

// edgePhases are those around whole and half turns and around the bounds of an int64.
func edgePhases() []int64 {
	list := []int64{}
	for _, turns := range []int64{0, 1, -1, 2, -2, 3, 1000, -1000, math.MaxInt64 / wholeTurn, math.MinInt64/wholeTurn + 1} {
		for _, near := range []int64{-halfTurn - 1, -halfTurn, -halfTurn + 1, -halfTurn / 2, -2, -1, 0, 1, 2, halfTurn / 2, halfTurn - 1} {
			list = append(list, turns*wholeTurn+near)
		}
	}
	for near := range int64(4) {
		list = append(list, math.MinInt64+near, math.MaxInt64-near, math.MinInt64+halfTurn-near, math.MinInt64+halfTurn+near, math.MaxInt64-halfTurn+near, math.MaxInt64-halfTurn-near)
	}
	return list
}

// drawnPhase is an edge, any number, or one of a few that often lie just half a turn apart.
func drawnPhase(draw *numbers) int64 {
	switch draw.below(4) {
	case 0:
		edges := edgePhases()
		return edges[draw.below(int64(len(edges)))]
	case 1:
		return draw.next()
	}
	return draw.below(8) * wholeTurn / 8
}

func drawnPhases(draw *numbers, count int) []int64 {
	list := []int64{}
	for range count {
		list = append(list, drawnPhase(draw))
	}
	return list
}

func holdWrap(t *testing.T, p int64, want int64) {
	t.Helper()
	for range 2 {
		if got := impl.WrapPhase(p); got != want {
			t.Errorf("WrapPhase(%d) = %d, want %d", p, got, want)
		}
	}
}

// holdUnwrap asks twice, looks behind the list's end, and writes into the first answer.
func holdUnwrap(t *testing.T, what string, list []int64, want []int64) {
	t.Helper()
	given := roomy(list, 7)
	if list == nil {
		given = nil
	}
	kept := slices.Clone(given[:cap(given)])
	got, again := impl.UnwrapRow(given), impl.UnwrapRow(given)
	if !slices.Equal(got, want) {
		t.Errorf("%s: UnwrapRow(%s) = %s, want %s", what, brief(list), brief(got), brief(want))
	}
	apart(t, [][]int64{got}, [][]int64{given, again})
	for i := range got[:cap(got)] {
		got[:cap(got)][i] = 77
	}
	if !slices.Equal(again, want) {
		t.Errorf("%s: UnwrapRow(%s) is %s when asked again, want %s", what, brief(list), brief(again), brief(want))
	}
	if !slices.Equal(given[:cap(given)], kept) {
		t.Errorf("%s: UnwrapRow changes %s", what, brief(list))
	}
}

func TestPhasesOfTheDocument(t *testing.T) {
	if impl.Turn != wholeTurn || impl.MaxMap != 32 {
		t.Error("bounds")
	}
	holdWrap(t, impl.Turn/2, -524288)
	holdUnwrap(t, "the document", []int64{0, 400000, 800000, 151424}, []int64{0, 400000, 800000, 1200000})
}

func TestWrapPhaseTold(t *testing.T) {
	for p, want := range map[int64]int64{
		0: 0, 1: 1, -1: -1, 400000: 400000, -400000: -400000,
		524287: 524287, 524288: -524288, 524289: -524287, -524287: -524287, -524288: -524288, -524289: 524287,
		1048575: -1, 1048576: 0, 1048577: 1, -1048575: 1, -1048576: 0, -1048577: -1,
		1572863: 524287, 1572864: -524288, -1572864: -524288, -1572865: 524287, 5 * 1048576: 0, -5*1048576 - 1: -1, 5*1048576 + 1: 1,
		math.MaxInt64: -1, math.MaxInt64 - 1: -2, math.MinInt64: 0, math.MinInt64 + 1: 1, math.MinInt64 + 2: 2,
		math.MaxInt64 - 524287: -524288, math.MaxInt64 - 524288: 524287, math.MinInt64 + 524287: 524287, math.MinInt64 + 524288: -524288,
	} {
		holdWrap(t, p, want)
	}
}

func TestWrappedPhasesLieInATurn(t *testing.T) {
	draw := numbers{state: 1401}
	list := append(edgePhases(), anyNumbers()...)
	for range 3000 {
		list = append(list, draw.next(), draw.below(4*wholeTurn)-2*wholeTurn)
	}
	for _, p := range list {
		holdWrap(t, p, wrapByWords(p))
		got := impl.WrapPhase(p)
		if got < -halfTurn || got >= halfTurn || !wholeTurnsApart(got, p) {
			t.Errorf("WrapPhase(%d) = %d", p, got)
		}
		holdWrap(t, got, got)
		for _, turns := range []int64{1, -1, 7, -300} {
			holdWrap(t, got+turns*wholeTurn, got)
		}
	}
}

func TestUnwrapRowTold(t *testing.T) {
	for _, one := range []struct {
		what string
		list []int64
		want []int64
	}{
		{"none", []int64{}, nil},
		{"nil", nil, nil},
		{"one", []int64{5}, []int64{5}},
		{"one of half a turn", []int64{524288}, []int64{-524288}},
		{"one far out", []int64{3*1048576 - 7}, []int64{-7}},
		{"two", []int64{10, 4}, []int64{10, 4}},
		{"two alike", []int64{9, 9}, []int64{9, 9}},
		{"two alike but for turns", []int64{9, 9 - 4*1048576}, []int64{9, 9}},
		{"up by just half a turn", []int64{0, 524288}, []int64{0, -524288}},
		{"down by just half a turn", []int64{0, -524288}, []int64{0, -524288}},
		{"up by half a turn from below", []int64{-524288, 0}, []int64{-524288, -1048576}},
		{"up by half a turn from a quarter below", []int64{-262144, 262144}, []int64{-262144, -786432}},
		{"down by half a turn from a quarter above", []int64{262144, -262144}, []int64{262144, -262144}},
		{"to and fro by half a turn", []int64{0, 524288, 0, 524288}, []int64{0, -524288, -1048576, -1572864}},
		{"less than half a turn up", []int64{0, 524287}, []int64{0, 524287}},
		{"less than half a turn down", []int64{0, -524287}, []int64{0, -524287}},
		{"more than half a turn up", []int64{0, 524289}, []int64{0, -524287}},
		{"more than half a turn down", []int64{0, -524289}, []int64{0, 524287}},
		{"over the edge upwards", []int64{524287, 524289}, []int64{524287, 524289}},
		{"over the edge downwards", []int64{-524288, -524290}, []int64{-524288, -524290}},
		{"a first one above half a turn", []int64{600000, 600001}, []int64{-448576, -448575}},
		{"rising", []int64{0, 300000, -448576, -148576, 151424}, []int64{0, 300000, 600000, 900000, 1200000}},
		{"falling", []int64{0, -300000, 448576, 148576, -151424}, []int64{0, -300000, -600000, -900000, -1200000}},
		{"the bounds", []int64{math.MinInt64, math.MaxInt64, math.MinInt64}, []int64{0, -1, 0}},
		{"the bounds and half a turn", []int64{math.MaxInt64, math.MinInt64 + 524288, math.MaxInt64 - 524287}, []int64{-1, -524288, -524288}},
	} {
		holdUnwrap(t, one.what, one.list, one.want)
	}
}

func TestRowsThatGoOnRising(t *testing.T) {
	for _, step := range []int64{1, 100000, 262144, 524287, -1, -262144, -524287, -524288} {
		for _, count := range []int{2, 3, 10, 5000} {
			want, wrapped, far := []int64{}, []int64{}, []int64{}
			for i := range int64(count) {
				want = append(want, i*step)
				wrapped = append(wrapped, wrapByWords(i*step))
				far = append(far, i*step+(i*i%13-6)*wholeTurn)
			}
			holdUnwrap(t, "wrapped", wrapped, want)
			holdUnwrap(t, "as it is", want, want)
			holdUnwrap(t, "far out", far, want)
		}
	}
}

func TestUnwrapRowByWords(t *testing.T) {
	draw := numbers{state: 1402}
	for round := range 600 {
		list := drawnPhases(&draw, round%40)
		holdUnwrap(t, "drawn", list, unwrapByWords(list))
	}
	for _, a := range edgePhases() {
		for _, b := range edgePhases() {
			if got, want := impl.UnwrapRow([]int64{a, b}), unwrapByWords([]int64{a, b}); !slices.Equal(got, want) {
				t.Errorf("UnwrapRow(%d, %d) = %v, want %v", a, b, got, want)
			}
		}
	}
}

func TestUnwrappedRowsDifferByTurns(t *testing.T) {
	draw := numbers{state: 1403}
	for range 200 {
		list := drawnPhases(&draw, 30)
		got := impl.UnwrapRow(list)
		for i, phase := range list {
			if !wholeTurnsApart(got[i], phase) {
				t.Errorf("UnwrapRow(%v) has %d at %d", list, got[i], i)
			}
			if i > 0 && (got[i]-got[i-1] < -halfTurn || got[i]-got[i-1] >= halfTurn) {
				t.Errorf("UnwrapRow(%v) goes from %d to %d", list, got[i-1], got[i])
			}
		}
	}
}

func TestSmoothRowsComeBack(t *testing.T) {
	draw := numbers{state: 1404}
	for range 200 {
		row := []int64{draw.below(40*wholeTurn) - 20*wholeTurn}
		for i := range 40 {
			row = append(row, row[i]+draw.below(wholeTurn-1)-halfTurn+1)
		}
		wrapped := []int64{}
		for _, phase := range row {
			wrapped = append(wrapped, wrapByWords(phase))
		}
		for _, list := range [][]int64{row, wrapped} {
			got := impl.UnwrapRow(list)
			for i := range row {
				if got[i]-row[i] != got[0]-row[0] || !wholeTurnsApart(got[i], row[i]) {
					t.Fatalf("%v does not come back from UnwrapRow(%v): %v", row, list, got)
				}
			}
		}
	}
}
