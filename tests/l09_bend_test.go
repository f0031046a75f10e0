package tests

import (
	"math"
	"testing"

	"loop.example/g00049/impl"
)

// alongByWords is c, of a ray's and a normal's direction.
func alongByWords(ray impl.Ray, normal impl.Ray) float64 {
	return onceSum(onceSum(onceProduct(ray.L, normal.L), onceProduct(ray.M, normal.M)), onceProduct(ray.N, normal.N))
}

func bendByWords(ray impl.Ray, normal impl.Ray, before float64, behind float64) impl.RayResult {
	m, c := onceQuotient(before, behind), alongByWords(ray, normal)
	s := onceSum(1, -onceProduct(onceProduct(m, m), onceSum(1, -onceProduct(c, c))))
	if math.IsNaN(s) || s < 0 {
		return noRay()
	}
	g := onceSum(math.Sqrt(s), -onceProduct(m, c))
	list, stands := floatsOfRay(ray), floatsOfRay(normal)
	for i := 3; i < 6; i++ {
		list[i] = onceSum(onceProduct(m, list[i]), onceProduct(g, stands[i]))
	}
	return impl.RayResult{Ray: rayOfFloats(list)}
}

func bounceByWords(ray impl.Ray, normal impl.Ray) impl.Ray {
	c := alongByWords(ray, normal)
	k := onceSum(c, c)
	list, stands := floatsOfRay(ray), floatsOfRay(normal)
	for i := 3; i < 6; i++ {
		list[i] = onceSum(list[i], -onceProduct(k, stands[i]))
	}
	return rayOfFloats(list)
}

func noRay() impl.RayResult {
	return impl.RayResult{Code: impl.ErrNone}
}

// raysAlike are a normal with other points, which say nothing.
func raysAlike(normal impl.Ray) []impl.Ray {
	far := normal
	far.X, far.Y, far.Z = 3, math.Inf(-1), math.NaN()
	return []impl.Ray{normal, normal, far}
}

func holdBend(t *testing.T, what string, ray impl.Ray, normal impl.Ray, before float64, behind float64, want impl.RayResult) {
	t.Helper()
	for _, n := range raysAlike(normal) {
		if got := impl.BendRay(ray, n, before, behind); got.Code != want.Code || !sameRay(got.Ray, want.Ray) {
			t.Errorf("%s: BendRay(%+v, %+v, %v, %v) = %+v, want %+v", what, ray, n, before, behind, got, want)
		}
	}
}

func holdBounce(t *testing.T, what string, ray impl.Ray, normal impl.Ray, want impl.Ray) {
	t.Helper()
	for _, n := range raysAlike(normal) {
		if got := impl.BounceRay(ray, n); !sameRay(got, want) {
			t.Errorf("%s: BounceRay(%+v, %+v) = %+v, want %+v", what, ray, n, got, want)
		}
	}
}

// heading is a direction at a point that is told by it alone.
func heading(l float64, m float64, n float64) impl.Ray {
	return impl.Ray{X: 7, Y: -8, Z: 0.25, L: l, M: m, N: n}
}

func TestBendRayTold(t *testing.T) {
	up, down := impl.Ray{N: 1}, impl.Ray{N: -1}
	bent := func(l float64, m float64, n float64) impl.RayResult { return impl.RayResult{Ray: heading(l, m, n)} }
	for _, behind := range []float64{1, 2, 0.5, 4} {
		holdBend(t, "at right angles", heading(0, 0, 1), up, 1, behind, bent(0, 0, 1))
		holdBend(t, "at right angles", heading(0, 0, 1), up, behind, 1, bent(0, 0, 1))
	}
	holdBend(t, "the same", heading(0.75, 0, 1), up, 1.5, 1.5, bent(0.75, 0, 1))
	// s is 1 less 1/4 of 1 less c c.
	holdBend(t, "more behind", heading(1, 0, 0), up, 1, 2, bent(0.5, 0, math.Sqrt(0.75)))
	holdBend(t, "more behind", heading(0, -1, 0), up, 1.5, 3, bent(0, -0.5, math.Sqrt(0.75)))
	// Here m is 2, c c is 15/16 or so.
	c := math.Sqrt(0.9375)
	holdBend(t, "less behind", heading(0.25, 0, c), up, 2, 1, bent(0.5, 0, 2*c+(math.Sqrt(1-4*(1-float64(c*c)))-2*c)))
	holdBend(t, "wholly reflected", heading(0.8, 0, 0.6), up, 1.5, 1, noRay())
	holdBend(t, "not wholly reflected", heading(0.8, 0, 0.6), up, 1, 1.5, bendByWords(heading(0.8, 0, 0.6), up, 1, 1.5))
	// A normal from behind: c is below 0, and the ray comes out along the normal.
	holdBend(t, "from behind", heading(0, 0, 1), down, 1, 1, bent(0, 0, -1))
	holdBend(t, "from behind", heading(0, 0, 1), down, 1, 2, bent(0, 0, -1))
	holdBend(t, "from behind", heading(0, 0, -1), down, 1, 2, bent(0, 0, -1))
	holdBend(t, "below 0", heading(0, 0, 1), up, 1, -1, bent(0, 0, 1))
	holdBend(t, "below 0", heading(1, 0, 0), up, 1, -2, bent(-0.5, 0, math.Sqrt(0.75)))
}

func TestBendRayJustSo(t *testing.T) {
	up, along := impl.Ray{N: 1}, heading(1, 0, 0)
	above, below := math.Nextafter(1, 2), math.Nextafter(1, 0)
	holdBend(t, "s is 0", along, up, 1, 1, impl.RayResult{Ray: along})
	holdBend(t, "s is 0", along, up, 3, 3, impl.RayResult{Ray: along})
	holdBend(t, "just below", along, up, above, 1, noRay())
	holdBend(t, "just above", along, up, below, 1, impl.RayResult{Ray: heading(below, 0, 0x1p-26)})
	holdBend(t, "just below", along, up, 1, below, noRay())
	holdBend(t, "just above", along, up, 1, above, bendByWords(along, up, 1, above))
}

func TestBendRayWithoutBounds(t *testing.T) {
	up, inf, nan := impl.Ray{N: 1}, math.Inf(1), math.NaN()
	for _, ray := range []impl.Ray{heading(0, 0, 1), heading(0.5, 0, 0.5), heading(0, 0.8, 0.6)} {
		for _, indices := range [][2]float64{{1, 0}, {-1, 0}, {1, nought()}, {0, 0}, {inf, 1}, {inf, inf}, {nan, 1}, {1, nan}} {
			holdBend(t, "no index", ray, up, indices[0], indices[1], noRay())
		}
	}
	// With c above 1, s is infinite and from 0 on.
	holdBend(t, "behind is 0", heading(0, 0, 2), up, 1, 0, impl.RayResult{Ray: heading(nan, nan, nan)})
	holdBend(t, "behind is 0", heading(1, 0, 2), up, -1, 0, bendByWords(heading(1, 0, 2), up, -1, 0))
	holdBend(t, "before is 0", heading(0.5, 0, 0.5), up, 0, 1, impl.RayResult{Ray: heading(0, 0, 1)})
	holdBend(t, "behind is infinite", heading(0.5, -0.5, 0.5), up, 1, inf, impl.RayResult{Ray: heading(0, 0, 1)})
	for _, place := range [][3]float64{{nan, 0, 1}, {0, nan, 1}, {0, 0, nan}, {inf, 0, 0}, {inf, -inf, 1}} {
		ray := heading(place[0], place[1], place[2])
		holdBend(t, "direction", ray, up, 1, 1.5, bendByWords(ray, up, 1, 1.5))
		holdBend(t, "normal", heading(0.6, 0, 0.8), ray, 1, 1.5, bendByWords(heading(0.6, 0, 0.8), ray, 1, 1.5))
	}
	holdBend(t, "point", impl.Ray{X: nan, Y: inf, Z: nought(), N: 1}, up, 1, 2, impl.RayResult{Ray: impl.Ray{X: nan, Y: inf, Z: nought(), N: 1}})
}

// drawnDirection has the length 1 as nearly as floats do.
func drawnDirection(draw *numbers) impl.Ray {
	for {
		l, m, n := aroundNought(draw, 1), aroundNought(draw, 1), aroundNought(draw, 1)
		if w := math.Sqrt(l*l + m*m + n*n); w > 0.1 && w < 1 {
			return impl.Ray{X: aroundNought(draw, 9), Y: aroundNought(draw, 9), Z: aroundNought(draw, 9), L: l / w, M: m / w, N: n / w}
		}
	}
}

func TestBendDrawnRays(t *testing.T) {
	draw := numbers{state: 98}
	seen := map[int64]int{}
	for range 20000 {
		ray, normal := drawnDirection(&draw), drawnDirection(&draw)
		before, behind := 1+drawnPart(&draw), 1+drawnPart(&draw)
		if draw.below(4) == 0 {
			behind = before
		}
		want := bendByWords(ray, normal, before, behind)
		seen[want.Code]++
		holdBend(t, "drawn", ray, normal, before, behind, want)
		holdBounce(t, "drawn", ray, normal, bounceByWords(ray, normal))
	}
	if seen[impl.OK] < 5000 || seen[impl.ErrNone] < 1000 {
		t.Error(seen)
	}
}

func TestBendEveryEdge(t *testing.T) {
	draw := numbers{state: 99}
	seen := map[int64]int{}
	for range 30000 {
		list := []float64{}
		for range 14 {
			list = append(list, drawnEdge(&draw))
		}
		ray, normal := rayOfFloats(list[:6]), rayOfFloats(list[6:12])
		want := bendByWords(ray, normal, list[12], list[13])
		seen[want.Code]++
		holdBend(t, "edges", ray, normal, list[12], list[13], want)
		holdBounce(t, "edges", ray, normal, bounceByWords(ray, normal))
	}
	if seen[impl.OK] < 1000 || seen[impl.ErrNone] < 1000 {
		t.Error(seen)
	}
}

// lessOf takes a direction from another one, so that what is left tells how they lie.
func lessOf(a impl.Ray, b impl.Ray, times float64) [3]float64 {
	return [3]float64{a.L - times*b.L, a.M - times*b.M, a.N - times*b.N}
}

func sizeOf(v [3]float64) float64 {
	return math.Sqrt(v[0]*v[0] + v[1]*v[1] + v[2]*v[2])
}

func dotOf(a impl.Ray, b impl.Ray) float64 {
	return a.L*b.L + a.M*b.M + a.N*b.N
}

func turnedRound(r impl.Ray) impl.Ray {
	r.L, r.M, r.N = -r.L, -r.M, -r.N
	return r
}

// TestLightBendsByItsIndices: what lies across the normal grows as the index falls; turned round, the light goes back as it came.
func TestLightBendsByItsIndices(t *testing.T) {
	draw := numbers{state: 100}
	bent := 0
	for range 5000 {
		ray, normal := drawnDirection(&draw), drawnDirection(&draw)
		if dotOf(ray, normal) < 0.1 {
			continue
		}
		before, behind := 1+drawnPart(&draw), 1+drawnPart(&draw)
		got := impl.BendRay(ray, normal, before, behind)
		if got.Code != impl.OK || dotOf(got.Ray, normal) < 0.1 {
			continue
		}
		bent++
		across, acrossBent := lessOf(ray, normal, dotOf(ray, normal)), lessOf(got.Ray, normal, dotOf(got.Ray, normal))
		for i := range across {
			if !near(before*across[i], behind*acrossBent[i]) {
				t.Fatal(ray, normal, before, behind, got)
			}
		}
		if !near(dotOf(got.Ray, got.Ray), 1) || dotOf(got.Ray, normal) < 0 {
			t.Fatal(ray, normal, before, behind, got)
		}
		back := impl.BendRay(turnedRound(got.Ray), turnedRound(normal), behind, before)
		if back.Code != impl.OK || sizeOf(lessOf(back.Ray, turnedRound(ray), 1)) > 1e-9 {
			t.Fatal(ray, normal, before, behind, back)
		}
	}
	if bent < 1000 {
		t.Error(bent)
	}
}

func TestBounceRayTold(t *testing.T) {
	up := impl.Ray{N: 1}
	holdBounce(t, "at right angles", heading(0, 0, 1), up, heading(0, 0, -1))
	holdBounce(t, "at right angles", heading(0, 0, -1), up, heading(0, 0, 1))
	holdBounce(t, "at right angles", heading(0, 0, 1), impl.Ray{N: -1}, heading(0, 0, -1))
	holdBounce(t, "aslant", heading(0.5, -0.25, 2), up, heading(0.5, -0.25, -2))
	holdBounce(t, "aslant", heading(1, 0, 2), impl.Ray{L: 0.5, M: 0.5, N: 0.5}, heading(-0.5, -1.5, 0.5))
	holdBounce(t, "along the face", heading(1, 0, 0), up, heading(1, 0, 0))
	holdBounce(t, "no normal", heading(1, nought(), -3), impl.Ray{}, heading(1, nought(), -3))
	holdBounce(t, "no direction", heading(0, nought(), 0), up, heading(0, nought(), 0))
	holdBounce(t, "noughts", heading(nought(), nought(), 1), up, heading(nought(), nought(), -1))
	holdBounce(t, "noughts", heading(nought(), 0, 1), impl.Ray{L: nought(), M: nought(), N: 1}, heading(0, 0, -1))
	inf, nan := math.Inf(1), math.NaN()
	holdBounce(t, "infinite", heading(0, 0, inf), up, heading(nan, nan, nan))
	holdBounce(t, "NaN", heading(0, nan, 1), up, heading(nan, nan, nan))
	holdBounce(t, "great", heading(0, 0, 1e308), up, heading(nan, nan, math.Inf(-1)))
	holdBounce(t, "point", impl.Ray{X: nan, Y: -inf, Z: nought(), N: 1}, up, impl.Ray{X: nan, Y: -inf, Z: nought(), N: -1})
}

// TestMirroredLight: what lies along the normal is turned round, what lies across it stays; mirrored twice, all is as it was but for the rounding.
func TestMirroredLight(t *testing.T) {
	draw := numbers{state: 101}
	unlike := 0
	for range 5000 {
		ray, normal := drawnDirection(&draw), drawnDirection(&draw)
		once := impl.BounceRay(ray, normal)
		if !near(dotOf(once, normal), -dotOf(ray, normal)) || !near(dotOf(once, once), 1) {
			t.Fatal(ray, normal, once)
		}
		across, acrossOnce := lessOf(ray, normal, dotOf(ray, normal)), lessOf(once, normal, dotOf(once, normal))
		if !near(across[0], acrossOnce[0]) || !near(across[1], acrossOnce[1]) || !near(across[2], acrossOnce[2]) {
			t.Fatal(ray, normal, once)
		}
		// Light that is sent back comes the way it went, and a mirror has no front.
		if back := impl.BounceRay(turnedRound(once), normal); sizeOf(lessOf(back, turnedRound(ray), 1)) > 1e-9 {
			t.Fatal(ray, normal, back)
		}
		holdBounce(t, "no front", ray, turnedRound(normal), once)
		twice := impl.BounceRay(once, normal)
		holdBounce(t, "twice", once, normal, bounceByWords(bounceByWords(ray, normal), normal))
		if sizeOf(lessOf(twice, ray, 1)) > 1e-9 || twice.X != ray.X || twice.Y != ray.Y || twice.Z != ray.Z {
			t.Fatal(ray, normal, twice)
		}
		if twice != ray {
			unlike++
		}
	}
	if unlike < 1000 {
		t.Error(unlike)
	}
}
