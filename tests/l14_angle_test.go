package tests

import (
	"math"
	"testing"

	"loop.example/g00049/impl"
)

// angleByWords goes by the document's steps; the products are mulByWords', the roots rootsByWords'.
func angleByWords(roots []impl.Z, z impl.Z) int64 {
	parts := int64(0)
	if z.Im < 0 || (z.Im == 0 && z.Re < 0) {
		parts, z = 524288, impl.Z{Re: -z.Re, Im: -z.Im}
	}
	if math.IsNaN(z.Re) || z.Re <= 0 {
		parts, z = parts+262144, impl.Z{Re: z.Im, Im: -z.Re}
	}
	part := int64(131072)
	for k := 3; k <= 20; k++ {
		w := mulByWords(z, impl.Z{Re: roots[k].Re, Im: -roots[k].Im})
		if w.Im >= 0 {
			parts, z = parts+part, w
		}
		part /= 2
	}
	return parts
}

func holdAngle(t *testing.T, what string, z impl.Z, want int64) {
	t.Helper()
	for range 2 {
		if got := impl.AngleOf(z); got != want {
			t.Errorf("%s: AngleOf(%v) = %d, want %d", what, z, got, want)
		}
	}
}

func holdSteps(t *testing.T, what string, a float64, b float64, c float64, d float64, want int64) {
	t.Helper()
	for range 2 {
		if got := impl.FourSteps(a, b, c, d); got != want {
			t.Errorf("%s: FourSteps(%v, %v, %v, %v) = %d, want %d", what, a, b, c, d, got, want)
		}
	}
}

// partsApart is how far two angles lie apart, the shorter way round.
func partsApart(a int64, b int64) int64 {
	far := wrapByWords(a - b)
	return max(far, -far)
}

func TestAnglesOfHalfAxes(t *testing.T) {
	for _, size := range []float64{0x1p-1022, 1e-200, 0.1, 1, 2, 1e200, impl.LargestFloat} {
		for _, zero := range []float64{0, nought()} {
			holdAngle(t, "to the right", impl.Z{Re: size, Im: zero}, 0)
			holdAngle(t, "up", impl.Z{Re: zero, Im: size}, impl.Turn/4)
			holdAngle(t, "to the left", impl.Z{Re: -size, Im: zero}, impl.Turn/2)
			holdAngle(t, "down", impl.Z{Re: zero, Im: -size}, 3*impl.Turn/4)
		}
	}
}

// TestAnglesOfTheLeastFloat: all roots but the third turn it back by less than a float tells, so they are taken.
func TestAnglesOfTheLeastFloat(t *testing.T) {
	const least = 5e-324
	for z, want := range map[impl.Z]int64{
		{Re: least}: 131071, {Im: least}: 393215, {Re: -least}: 655359, {Im: -least}: 917503,
	} {
		holdAngle(t, "the least", z, want)
	}
}

func TestAnglesOfDiagonals(t *testing.T) {
	for _, size := range []float64{1e-200, 0.1, 1, 2, 3, 1e200} {
		for z, eighth := range map[impl.Z]int64{{Re: size, Im: size}: 1, {Re: -size, Im: size}: 3, {Re: -size, Im: -size}: 5, {Re: size, Im: -size}: 7} {
			holdAngle(t, "a diagonal", z, angleByWords(rootsByWords(), z))
			if got := impl.AngleOf(z); partsApart(got, eighth*impl.Turn/8) > 1 {
				t.Errorf("AngleOf(%v) = %d, not by %d eighths", z, got, eighth)
			}
		}
	}
}

// TestAnglesOfNoughts: nought is neither below nor above, so a quarter is added, and each root back leaves it at 0.
func TestAnglesOfNoughts(t *testing.T) {
	for _, re := range []float64{0, nought()} {
		for _, im := range []float64{0, nought()} {
			holdAngle(t, "nought", impl.Z{Re: re, Im: im}, impl.Turn/4+impl.Turn/4-1)
		}
	}
}

// TestAnglesOfNaN: of NaN no root is taken, but what is not above 0 is asked so that NaN is not.
func TestAnglesOfNaN(t *testing.T) {
	nan, inf := math.NaN(), math.Inf(1)
	for _, other := range []float64{0, nought(), 1, 5e-324, impl.LargestFloat, inf} {
		holdAngle(t, "NaN in Re", impl.Z{Re: nan, Im: other}, impl.Turn/4)
	}
	for _, other := range []float64{-1, -5e-324, -impl.LargestFloat, -inf} {
		holdAngle(t, "NaN in Re, Im below 0", impl.Z{Re: nan, Im: other}, 3*impl.Turn/4)
	}
	for _, other := range []float64{1, 5e-324, impl.LargestFloat, inf} {
		holdAngle(t, "NaN in Im", impl.Z{Re: other, Im: nan}, 0)
	}
	for _, other := range []float64{0, nought(), -1, -5e-324, -impl.LargestFloat, -inf} {
		holdAngle(t, "NaN in Im, Re not above 0", impl.Z{Re: other, Im: nan}, impl.Turn/4)
	}
	holdAngle(t, "NaN in both", impl.Z{Re: nan, Im: nan}, impl.Turn/4)
}

// TestAnglesOfInfiniteOnes: once Re and Im are both infinite, each root back leaves NaN in Im, and is not taken.
func TestAnglesOfInfiniteOnes(t *testing.T) {
	inf := math.Inf(1)
	for z, want := range map[impl.Z]int64{
		{Re: inf}: 0, {Re: inf, Im: 1}: 0, {Re: inf, Im: impl.LargestFloat}: 0, {Re: inf, Im: inf}: 0,
		{Im: inf}: 262144, {Re: 1, Im: inf}: 131072, {Re: -1, Im: inf}: 262144, {Re: -inf, Im: inf}: 262144, {Re: -inf, Im: 1}: 393216,
		{Re: -inf}: 524288, {Re: -inf, Im: -1}: 524288, {Re: -inf, Im: -inf}: 524288, {Re: 1, Im: -inf}: 786432, {Re: -1, Im: -inf}: 655360, {Im: -inf}: 786432, {Re: inf, Im: -inf}: 786432, {Re: inf, Im: -1}: 917504,
	} {
		holdAngle(t, "infinite", z, want)
		holdAngle(t, "infinite, by words", z, angleByWords(rootsByWords(), z))
	}
}

func TestAnglesByWords(t *testing.T) {
	roots := rootsByWords()
	for _, z := range everyZ() {
		holdAngle(t, "every kind", z, angleByWords(roots, z))
	}
	for _, z := range drawnZ(1431, 4000) {
		holdAngle(t, "drawn", z, angleByWords(roots, z))
	}
	draw := numbers{state: 1432}
	for range 4000 {
		z := impl.Z{Re: drawnEdge(&draw), Im: drawnEdge(&draw)}
		holdAngle(t, "edges", z, angleByWords(roots, z))
	}
}

// turnsToAsk are the turns of each root, those beside them, and others.
func turnsToAsk() []int64 {
	list := []int64{}
	for k := range 20 {
		for _, quarter := range []int64{0, 1, 2, 3} {
			for _, near := range []int64{-2, -1, 0, 1, 2} {
				list = append(list, quarter*wholeTurn/4+1<<k+near, quarter*wholeTurn/4-1<<k+near)
			}
		}
	}
	return append(list, parts()...)
}

func TestAnglesOfTurns(t *testing.T) {
	roots := rootsByWords()
	exactly := 0
	for _, part := range turnsToAsk() {
		z := impl.TurnZ(part)
		want := angleByWords(roots, z)
		holdAngle(t, "a turn", z, want)
		if partsApart(want, part%wholeTurn) > 1 {
			t.Errorf("AngleOf(TurnZ(%d)) = %d", part, want)
		}
		if want == part&(wholeTurn-1) {
			exactly++
		}
		// The float's own turn, rounded or not, lies on either side of it.
		for _, near := range []impl.Z{{Re: impl.NextFloat(z.Re), Im: z.Im}, {Re: z.Re, Im: impl.NextFloat(z.Im)}, {Re: math.Nextafter(z.Re, -2), Im: z.Im}, {Re: z.Re, Im: math.Nextafter(z.Im, -2)}} {
			holdAngle(t, "beside a turn", near, angleByWords(roots, near))
		}
	}
	if exactly == 0 {
		t.Error("no turn is found again")
	}
	for k := 1; k <= 20; k++ {
		holdAngle(t, "a root's own turn", roots[k], angleByWords(roots, roots[k]))
	}
}

// TestAnglesGoWithTheCircle asks between the parts, where no rounding matters.
func TestAnglesGoWithTheCircle(t *testing.T) {
	draw := numbers{state: 1433}
	for range 4000 {
		part := draw.below(wholeTurn)
		angle := 2 * math.Pi * (float64(part) + 0.25 + 0.5*drawnPart(&draw)) / wholeTurn
		size := math.Ldexp(1, int(draw.below(200))-100)
		holdAngle(t, "within a part", impl.Z{Re: size * math.Cos(angle), Im: size * math.Sin(angle)}, part)
	}
}

func TestFourStepsTold(t *testing.T) {
	inf, nan, below := math.Inf(1), math.NaN(), nought()
	holdSteps(t, "phase 0", 2, 1, 0, 1, 0)
	holdSteps(t, "a quarter", 1, 0, 1, 2, impl.Turn/4)
	holdSteps(t, "half a turn", 0, 1, 2, 1, impl.Turn/2)
	holdSteps(t, "three quarters", 1, 2, 1, 0, 3*impl.Turn/4)
	holdSteps(t, "all alike", 5, 5, 5, 5, impl.Turn/2-1)
	for _, a := range []float64{0, below} {
		for _, b := range []float64{0, below} {
			for _, c := range []float64{0, below} {
				for _, d := range []float64{0, below} {
					holdSteps(t, "noughts", a, b, c, d, impl.Turn/2-1)
				}
			}
		}
	}
	holdSteps(t, "NaN first", nan, 0, 0, 0, impl.Turn/4)
	holdSteps(t, "NaN third", 0, 0, nan, 1, impl.Turn/4)
	holdSteps(t, "NaN third and more below 0", 0, 1, nan, 0, 3*impl.Turn/4)
	holdSteps(t, "NaN second", 1, nan, 0, 0, 0)
	holdSteps(t, "NaN last", 0, 0, 1, nan, impl.Turn/4)
	holdSteps(t, "infinite ones less each other", inf, 0, inf, 0, impl.Turn/4)
	holdSteps(t, "infinite ones less each other below 0", -inf, 1, -inf, 0, 3*impl.Turn/4)
	holdSteps(t, "infinite to the right", inf, 0, 0, 0, 0)
	holdSteps(t, "infinite to the left", 0, 0, inf, 0, impl.Turn/2)
	holdSteps(t, "infinite up", 0, 0, 0, inf, impl.Turn/4)
	holdSteps(t, "infinite down", 0, inf, 0, 0, 3*impl.Turn/4)
	// The differences of the greatest floats are infinite.
	holdSteps(t, "too great", impl.LargestFloat, 0, -impl.LargestFloat, 0, 0)
	holdSteps(t, "too great both", impl.LargestFloat, -impl.LargestFloat, -impl.LargestFloat, impl.LargestFloat, 0)
	holdSteps(t, "too great down", 0, impl.LargestFloat, 0, -impl.LargestFloat, 3*impl.Turn/4)
}

func TestFourStepsOfKnownPhases(t *testing.T) {
	draw := numbers{state: 1434}
	for range 3000 {
		part := draw.below(wholeTurn)
		bright, deep := 10+10*drawnPart(&draw), 1+8*drawnPart(&draw)
		seen := [4]float64{}
		for step := range seen {
			// Each step turns the light a quarter further: cos of the phase, then less its sin, and so on.
			angle := 2 * math.Pi * (float64(part) + 0.5 + float64(step)*wholeTurn/4) / wholeTurn
			seen[step] = bright + deep*math.Cos(angle)
		}
		holdSteps(t, "a known phase", seen[0], seen[1], seen[2], seen[3], part)
	}
}

func TestFourStepsByWords(t *testing.T) {
	roots := rootsByWords()
	draw := numbers{state: 1435}
	for range 6000 {
		a, b, c, d := drawnEdge(&draw), drawnEdge(&draw), drawnEdge(&draw), drawnEdge(&draw)
		want := angleByWords(roots, impl.Z{Re: onceSum(a, -c), Im: onceSum(d, -b)})
		holdSteps(t, "edges", a, b, c, d, want)
	}
}
