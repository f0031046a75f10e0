package tests

import (
	"math"
	"slices"
	"testing"

	"loop.example/g00049/impl"
)

func floatsOfRay(r impl.Ray) []float64 {
	return []float64{r.X, r.Y, r.Z, r.L, r.M, r.N}
}

func rayOfFloats(list []float64) impl.Ray {
	return impl.Ray{X: list[0], Y: list[1], Z: list[2], L: list[3], M: list[4], N: list[5]}
}

func sameRay(a impl.Ray, b impl.Ray) bool {
	return slices.EqualFunc(floatsOfRay(a), floatsOfRay(b), sameFloat)
}

func sameHit(a impl.HitResult, b impl.HitResult) bool {
	return a.Code == b.Code && a.Steps == b.Steps && sameFloat(a.Length, b.Length) && sameRay(a.Ray, b.Ray) && sameRay(a.Normal, b.Normal)
}

// movedByWords is the ray told anew by a length.
func movedByWords(ray impl.Ray, length float64) impl.Ray {
	list := floatsOfRay(ray)
	for i := range 3 {
		list[i] = onceSum(list[i], onceProduct(length, list[3+i]))
	}
	return rayOfFloats(list)
}

func normalByWords(p float64, q float64) impl.Ray {
	w := math.Sqrt(onceSum(onceSum(onceProduct(p, p), onceProduct(q, q)), 1))
	return impl.Ray{L: onceQuotient(-p, w), M: onceQuotient(-q, w), N: onceQuotient(1, w)}
}

// meetByWords tells beside the answer why it is so.
func meetByWords(f impl.Face, ray impl.Ray) (impl.HitResult, string) {
	none := impl.HitResult{Code: impl.ErrNone}
	if math.IsNaN(ray.N) || ray.N <= 0 {
		return none, "goes back"
	}
	length := onceQuotient(-ray.Z, ray.N)
	point := movedByWords(ray, length)
	for added := range int64(impl.MaxSteps) {
		sag := sagByWords(f, point.X, point.Y)
		if sag.Code != impl.OK && added == 0 {
			return none, "no sag"
		}
		if sag.Code != impl.OK {
			return none, "no sag behind a step"
		}
		d := onceSum(sag.Sag, -point.Z)
		p := onceQuotient(onceProduct(f.Curve, point.X), sag.Under)
		q := onceQuotient(onceProduct(f.Curve, point.Y), sag.Under)
		if math.IsNaN(d) || d >= -impl.Near && d <= impl.Near {
			return impl.HitResult{Steps: added, Length: length, Ray: point, Normal: normalByWords(p, q)}, "met"
		}
		fall := onceSum(ray.N, -onceSum(onceProduct(ray.L, p), onceProduct(ray.M, q)))
		if math.IsNaN(fall) || fall <= 0 {
			return none, "grazes"
		}
		length = onceSum(length, onceQuotient(d, fall))
		point = movedByWords(ray, length)
	}
	return none, "no end"
}

// holdMeet asks twice; a face's other floats say nothing of where it is met.
func holdMeet(t *testing.T, what string, f impl.Face, ray impl.Ray, want impl.HitResult) {
	t.Helper()
	other := impl.Face{Curve: f.Curve, Conic: f.Conic, Gap: math.NaN(), Index: -1, Semi: 1e-9}
	for _, face := range []impl.Face{f, f, other} {
		if got := impl.MeetFace(face, ray); !sameHit(got, want) {
			t.Errorf("%s: MeetFace(%+v, %+v) = %+v, want %+v", what, face, ray, got, want)
		}
	}
}

// holdMeetByWords holds an answer that comes about for a reason.
func holdMeetByWords(t *testing.T, why string, f impl.Face, ray impl.Ray) impl.HitResult {
	t.Helper()
	want, reason := meetByWords(f, ray)
	if reason != why {
		t.Errorf("%+v and %+v: %s, not: %s", f, ray, reason, why)
	}
	holdMeet(t, why, f, ray, want)
	return want
}

func noHit() impl.HitResult {
	return impl.HitResult{Code: impl.ErrNone}
}

func TestMeetFaceGoesForward(t *testing.T) {
	ray := impl.Ray{X: 1, Y: 2, Z: -3, L: 0.25, M: 0.5}
	for _, f := range []impl.Face{{}, {Curve: 0.1}, {Curve: -0.1, Conic: -2}} {
		for _, n := range []float64{0, nought(), -5e-324, -1e-9, -1, math.Inf(-1), math.NaN()} {
			ray.N = n
			holdMeet(t, "not above 0", f, ray, noHit())
		}
		for _, n := range []float64{1, 3} {
			ray.N = n
			if got := holdMeetByWords(t, "met", f, ray); !(got.Length > 0) {
				t.Error(got)
			}
		}
	}
	// The least N goes far, but on the axis of a plane it comes there.
	holdMeet(t, "least", impl.Face{}, impl.Ray{Z: nought(), N: 5e-324}, impl.HitResult{Ray: impl.Ray{N: 5e-324}, Normal: impl.Ray{L: nought(), M: nought(), N: 1}})
	holdMeet(t, "least", impl.Face{}, impl.Ray{Z: -10, N: 5e-324}, noHit())
}

func TestMeetFaceTold(t *testing.T) {
	up := impl.Ray{L: nought(), M: nought(), N: 1}
	aslant := impl.Ray{X: 1, Y: 2, Z: -4, L: 0.5, M: -0.5, N: 2}
	holdMeet(t, "plane", impl.Face{}, aslant, impl.HitResult{Length: 2, Ray: impl.Ray{X: 2, Y: 1, L: 0.5, M: -0.5, N: 2}, Normal: up})
	holdMeet(t, "plane", impl.Face{Conic: 9}, aslant, impl.HitResult{Length: 2, Ray: impl.Ray{X: 2, Y: 1, L: 0.5, M: -0.5, N: 2}, Normal: up})
	holdMeet(t, "plane from the other side", impl.Face{Curve: nought()}, aslant, impl.HitResult{Length: 2, Ray: impl.Ray{X: 2, Y: 1, L: 0.5, M: -0.5, N: 2}, Normal: impl.Ray{N: 1}})
	holdMeet(t, "plane, x below 0", impl.Face{}, impl.Ray{X: -2, Y: 3, Z: -1, N: 1}, impl.HitResult{Length: 1, Ray: impl.Ray{X: -2, Y: 3, N: 1}, Normal: impl.Ray{M: nought(), N: 1}})
	holdMeet(t, "plane behind the ray", impl.Face{}, impl.Ray{X: 2, Z: 6, L: 1, N: 2}, impl.HitResult{Length: -3, Ray: impl.Ray{X: -1, L: 1, N: 2}, Normal: impl.Ray{M: nought(), N: 1}})
	holdMeet(t, "plane just there", impl.Face{}, impl.Ray{X: 2, L: 1, N: 2}, impl.HitResult{Length: nought(), Ray: impl.Ray{X: 2, L: 1, N: 2}, Normal: up})
	holdMeet(t, "axis", impl.Face{Curve: 0.5}, impl.Ray{Z: -5, N: 1}, impl.HitResult{Length: 5, Ray: impl.Ray{N: 1}, Normal: up})
	holdMeet(t, "axis", impl.Face{Curve: -0.5, Conic: -3}, impl.Ray{Z: -5, N: 0.5}, impl.HitResult{Length: 10, Ray: impl.Ray{N: 0.5}, Normal: impl.Ray{N: 1}})
	// Along the axis one step is enough: the paraboloid's Sag there is 0.5, its slopes are 1 and 0.
	w := math.Sqrt(2)
	holdMeet(t, "paraboloid", impl.Face{Curve: 1, Conic: -1}, impl.Ray{X: 1, Z: -2, N: 1}, impl.HitResult{Steps: 1, Length: 2.5, Ray: impl.Ray{X: 1, Z: 0.5, N: 1}, Normal: impl.Ray{L: -1 / w, M: nought(), N: 1 / w}})
	holdMeet(t, "paraboloid", impl.Face{Curve: -1, Conic: -1}, impl.Ray{Y: 1, Z: -2, N: 1}, impl.HitResult{Steps: 1, Length: 1.5, Ray: impl.Ray{Y: 1, Z: -0.5, N: 1}, Normal: impl.Ray{M: 1 / w, N: 1 / w}})
	// At a sphere's rim the slope has no bounds.
	holdMeet(t, "rim", impl.Face{Curve: 1}, impl.Ray{X: 1, Z: 1, N: 1}, noHit())
}

// TestMeetFaceEndsInTime: a ray that touches a paraboloid comes nearer by half with each step, so d, from Curve / 8 on, falls by 4, and nothing is rounded.
func TestMeetFaceEndsInTime(t *testing.T) {
	seen := map[int64]bool{}
	for exponent := -60; exponent <= 12; exponent++ {
		curve := math.Ldexp(1, exponent)
		f, ray := impl.Face{Curve: curve, Conic: -1}, impl.Ray{X: 0.5, L: 1, N: curve}
		steps, d := int64(0), curve/8
		for d > impl.Near {
			steps, d = steps+1, d/4
		}
		if steps >= impl.MaxSteps {
			holdMeetByWords(t, "no end", f, ray)
			holdMeet(t, "no end", f, ray, noHit())
			continue
		}
		seen[steps] = true
		length := 0.5 - math.Ldexp(0.5, -int(steps))
		if steps == 0 {
			length = nought()
		}
		got := holdMeetByWords(t, "met", f, ray)
		if got.Steps != steps || !sameFloat(got.Length, length) || got.Ray.X != 0.5+length || got.Ray.Z != curve*length {
			t.Errorf("Curve 2^%d: %+v, want %d steps, Length %v", exponent, got, steps, length)
		}
	}
	for steps := range int64(impl.MaxSteps) {
		if !seen[steps] {
			t.Errorf("no ray has %d steps", steps)
		}
	}
}

func TestMeetFaceIsNear(t *testing.T) {
	near := float64(impl.Near)
	for _, sign := range []float64{1, -1} {
		// Of this paraboloid d is half of Curve.
		just, ray := impl.Face{Curve: 2 * near * sign, Conic: -1}, impl.Ray{X: 1, Z: -3, N: 1}
		if s := impl.SagOf(just, 1, 0); s.Sag != near*sign {
			t.Error(s)
		}
		if got := holdMeetByWords(t, "met", just, ray); got.Steps != 0 || got.Ray.Z != 0 || got.Length != 3 {
			t.Error(got)
		}
		above := impl.Face{Curve: math.Nextafter(2*near, 1) * sign, Conic: -1}
		if got := holdMeetByWords(t, "met", above, ray); got.Steps != 1 || got.Ray.Z*sign <= 0 {
			t.Error(got)
		}
	}
}

func TestMeetFaceIsNotMet(t *testing.T) {
	ball := impl.Face{Curve: 1}
	holdMeetByWords(t, "no sag", ball, impl.Ray{X: 2, Z: -3, N: 1})
	holdMeetByWords(t, "no sag", ball, impl.Ray{X: math.NaN(), Z: -3, N: 1})
	holdMeetByWords(t, "no sag", ball, impl.Ray{X: 0.1, Z: -3, M: math.Inf(1), N: 1})
	holdMeetByWords(t, "no sag", impl.Face{}, impl.Ray{X: 0.1, Z: -3, M: math.Inf(1), N: 1})
	holdMeetByWords(t, "no sag", impl.Face{Curve: math.NaN()}, impl.Ray{Z: -3, N: 1})
	holdMeetByWords(t, "no sag", impl.Face{}, impl.Ray{Z: math.NaN(), N: 1})
	holdMeetByWords(t, "no sag", impl.Face{}, impl.Ray{Z: math.Inf(-1), N: 1})
	holdMeetByWords(t, "no sag behind a step", ball, impl.Ray{X: 0.9, L: 0.4, N: 1})
	// The slope is 1 here, so that f is N less L.
	dish := impl.Face{Curve: 1, Conic: -1}
	holdMeetByWords(t, "grazes", dish, impl.Ray{X: 1, L: 1, N: 1})
	holdMeetByWords(t, "grazes", dish, impl.Ray{X: 1, L: 2, N: 1})
	holdMeetByWords(t, "grazes", dish, impl.Ray{Y: -1, M: -1, N: 1})
	holdMeetByWords(t, "grazes", dish, impl.Ray{X: 1, L: math.Nextafter(1, 2), N: 1})
	// Just beside it, the ray goes on so far that it grazes there.
	holdMeetByWords(t, "grazes", dish, impl.Ray{X: 1, L: math.Nextafter(1, 0), N: 1})
	holdMeetByWords(t, "grazes", impl.Face{Curve: 1e160, Conic: -1}, impl.Ray{X: 1, Y: -1, L: 1e200, M: 1e200, N: 1})
	// In floats 11 times 15 / 11 is not 15, which from afar is more than Near; the next lengths are no better.
	holdMeetByWords(t, "no end", impl.Face{}, impl.Ray{Z: -15 * 0x1p40, N: 11})
	holdMeetByWords(t, "met", impl.Face{}, impl.Ray{Z: -15, N: 11})
}

// TestMeetFaceWithoutBounds: a d that is NaN is not above Near.
func TestMeetFaceWithoutBounds(t *testing.T) {
	inf, nan := math.Inf(1), math.NaN()
	holdMeet(t, "N", impl.Face{}, impl.Ray{Z: -1, N: inf}, impl.HitResult{Ray: impl.Ray{Z: nan, N: inf}, Normal: impl.Ray{L: nought(), M: nought(), N: 1}})
	hyperboloid := impl.Face{Curve: 1, Conic: -2}
	got := holdMeetByWords(t, "met", hyperboloid, impl.Ray{Z: -inf, L: 1, M: 1, N: 1})
	if got.Steps != 0 || got.Length != inf || got.Ray.X != inf || !math.IsNaN(got.Normal.L) {
		t.Error(got)
	}
	holdMeetByWords(t, "met", hyperboloid, impl.Ray{X: inf, N: 1})
}

// drawnFace is a plane, a sphere or any conic, mostly such as benches have.
func drawnFace(draw *numbers) impl.Face {
	f := impl.Face{Curve: aroundNought(draw, 0.2)}
	switch draw.below(6) {
	case 0:
		f.Curve = 0
	case 1:
		f.Curve = aroundNought(draw, 1)
	}
	if draw.below(2) == 0 {
		f.Conic = -1 + aroundNought(draw, 3)
	}
	f.Gap, f.Index = 5*drawnPart(draw), 1
	if draw.below(2) == 0 {
		f.Index = 1.2 + drawnPart(draw)
	}
	if draw.below(3) == 0 {
		f.Semi = 1 + 2*drawnPart(draw)
	}
	return f
}

// drawnRay comes from ahead of the face, or from somewhat behind it; its direction has the length 1 as nearly as floats do.
func drawnRay(draw *numbers, size float64, slope float64) impl.Ray {
	l, m := aroundNought(draw, slope), aroundNought(draw, slope)
	w := math.Sqrt(1 + l*l + m*m)
	return impl.Ray{X: aroundNought(draw, size), Y: aroundNought(draw, size), Z: 2 - 10*drawnPart(draw), L: l / w, M: m / w, N: 1 / w}
}

func TestMeetDrawnFaces(t *testing.T) {
	draw := numbers{state: 94}
	seen, steps := map[string]int{}, map[int64]int{}
	for range 20000 {
		f, ray := drawnFace(&draw), drawnRay(&draw, 3, 1)
		want, why := meetByWords(f, ray)
		seen[why]++
		if why == "met" {
			steps[want.Steps]++
		}
		holdMeet(t, why, f, ray, want)
	}
	if seen["met"] < 5000 || seen["no sag"] < 300 || seen["no sag behind a step"] < 100 || seen["grazes"] < 100 {
		t.Error(seen)
	}
	if steps[0] < 500 || steps[1] < 1 || steps[2] < 500 || steps[3] < 500 || steps[4] < 100 || steps[5] < 10 || steps[6] < 1 {
		t.Error(steps)
	}
}

// TestMeetFarPlanes: nearly every ray from afar comes near at once, or never, since its lengths lie too far apart.
func TestMeetFarPlanes(t *testing.T) {
	draw := numbers{state: 95}
	seen := map[string]int{}
	// Below a power of 2 floats lie closer, so that a step is enough for once.
	if got := holdMeetByWords(t, "met", impl.Face{}, impl.Ray{X: 1, Y: -1, Z: -0x1p40, L: 0.5, M: 0.25, N: 49}); got.Steps != 1 {
		t.Error(got)
	}
	for range 4000 {
		f := impl.Face{}
		if draw.below(2) == 0 {
			f.Curve, f.Conic = nought(), aroundNought(&draw, 3)
		}
		ray := drawnRay(&draw, 3, 1)
		ray.Z = -math.Pow(10, 20*drawnPart(&draw))
		want, why := meetByWords(f, ray)
		seen[why]++
		if want.Steps != 0 {
			t.Error(f, ray, want)
		}
		holdMeet(t, why, f, ray, want)
	}
	if seen["met"] < 1000 || seen["no end"] < 100 {
		t.Error(seen)
	}
}

func TestMeetEveryEdge(t *testing.T) {
	draw := numbers{state: 96}
	seen := map[string]int{}
	for range 20000 {
		f := impl.Face{Curve: drawnEdge(&draw), Conic: drawnEdge(&draw)}
		list := []float64{}
		for range 6 {
			list = append(list, drawnEdge(&draw))
		}
		ray := rayOfFloats(list)
		if draw.below(4) != 0 {
			ray.N = math.Abs(ray.N)
		}
		want, why := meetByWords(f, ray)
		seen[why]++
		holdMeet(t, why, f, ray, want)
	}
	for _, why := range []string{"goes back", "no sag", "no sag behind a step", "met", "grazes", "no end"} {
		if seen[why] < 10 {
			t.Error(seen)
		}
	}
}

// TestMetPointLiesOnBoth: on the ray and on the face; the normal has the length 1 and stands upon the face.
func TestMetPointLiesOnBoth(t *testing.T) {
	draw := numbers{state: 97}
	met := 0
	for range 3000 {
		f, ray := drawnFace(&draw), drawnRay(&draw, 2, 0.5)
		hit := impl.MeetFace(f, ray)
		if hit.Code != impl.OK {
			continue
		}
		met++
		at, n := hit.Ray, hit.Normal
		if at.L != ray.L || at.M != ray.M || at.N != ray.N {
			t.Fatal("the direction", ray, hit)
		}
		if !near(at.X-ray.X, hit.Length*ray.L) || !near(at.Y-ray.Y, hit.Length*ray.M) || !near(at.Z-ray.Z, hit.Length*ray.N) {
			t.Fatal("not on the ray", ray, hit)
		}
		if s := impl.SagOf(f, at.X, at.Y); s.Code != impl.OK || math.Abs(s.Sag-at.Z) > impl.Near {
			t.Fatal("not on the face", f, ray, hit)
		}
		if n.X != 0 || n.Y != 0 || n.Z != 0 || !near(n.L*n.L+n.M*n.M+n.N*n.N, 1) {
			t.Fatal("the normal", hit)
		}
		// The gradient of Curve (r + (1 + Conic) z z) - 2 z lies along the normal.
		a, b, c := f.Curve*at.X, f.Curve*at.Y, f.Curve*(1+f.Conic)*at.Z-1
		if !near(a*n.M, b*n.L) || !near(a*n.N, c*n.L) || !near(b*n.N, c*n.M) {
			t.Fatal("the normal leans", f, hit)
		}
	}
	if met < 1000 {
		t.Error(met)
	}
}
