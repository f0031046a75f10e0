package tests

import (
	"math"
	"slices"
	"testing"

	"loop.example/g00049/impl"
)

func sameRays(a impl.TraceResult, b impl.TraceResult) bool {
	return a.Code == b.Code && a.At == b.At && sameFloat(a.Path, b.Path) && slices.EqualFunc(a.Rays, b.Rays, sameRay)
}

func raysStuck(code int64, at int64) impl.TraceResult {
	return impl.TraceResult{Code: code, At: at}
}

// raysByWords tells beside the answer why it is so.
func raysByWords(faces []impl.Face, ray impl.Ray) (impl.TraceResult, string) {
	if len(faces) > impl.MaxSurfs {
		return raysStuck(impl.ErrMany, 0), "many"
	}
	indices := []float64{1}
	done := impl.TraceResult{}
	for i, f := range faces {
		ahead := indices[i]
		hit, _ := meetByWords(f, ray)
		if hit.Code != impl.OK {
			return raysStuck(hit.Code, int64(i)), "not met"
		}
		square := onceSum(onceProduct(hit.Ray.X, hit.Ray.X), onceProduct(hit.Ray.Y, hit.Ray.Y))
		if f.Semi > 0 && square > onceProduct(f.Semi, f.Semi) {
			return raysStuck(impl.ErrRange, int64(i)), "outside"
		}
		bent := bendByWords(hit.Ray, hit.Normal, ahead, f.Index)
		if bent.Code != impl.OK {
			return raysStuck(bent.Code, int64(i)), "reflected"
		}
		done.Path = onceSum(done.Path, onceProduct(ahead, hit.Length))
		done.Rays = append(done.Rays, bent.Ray)
		ray = bent.Ray
		ray.Z = onceSum(ray.Z, -f.Gap)
		indices = append(indices, f.Index)
	}
	return done, "through"
}

// holdRays asks for an answer, and for the same one again, in memory of its own.
func holdRays(t *testing.T, what string, faces []impl.Face, ray impl.Ray, want impl.TraceResult) {
	t.Helper()
	kept := slices.Clone(faces[:cap(faces)])
	got, again := impl.TraceRay(faces, ray), impl.TraceRay(faces, ray)
	if !sameRays(got, want) || !sameRays(again, want) {
		t.Errorf("%s: TraceRay(%s, %+v) = %s, want %s", what, brief(faces), ray, brief(got), brief(want))
	}
	if !slices.EqualFunc(kept, faces[:cap(faces)], sameFace) {
		t.Errorf("%s: TraceRay changes its faces", what)
	}
	apart(t, [][]impl.Ray{got.Rays}, [][]impl.Ray{again.Rays})
}

// holdRaysByWords holds an answer that comes about for a reason.
func holdRaysByWords(t *testing.T, why string, faces []impl.Face, ray impl.Ray) impl.TraceResult {
	t.Helper()
	want, reason := raysByWords(faces, ray)
	if reason != why {
		t.Errorf("%s and %+v: %s, not: %s", brief(faces), ray, reason, why)
	}
	holdRays(t, why, faces, ray, want)
	return want
}

func TestTraceRayTold(t *testing.T) {
	aslant := impl.Ray{X: 1, Y: -2, Z: -5, L: 0.5, M: 0.25, N: 1}
	holdRays(t, "no face", nil, aslant, impl.TraceResult{})
	holdRays(t, "no face", []impl.Face{}, impl.Ray{N: -1}, impl.TraceResult{})
	holdRays(t, "no face", []impl.Face{{}, {}}[:0], impl.Ray{}, impl.TraceResult{})
	// A plane between like media bends nothing: m is 1, and so is s with c being 1.
	pane := impl.Face{Gap: 3, Index: 1}
	behind := impl.Ray{X: 3.5, Y: -0.75, L: 0.5, M: 0.25, N: 1}
	holdRays(t, "one", []impl.Face{pane}, aslant, impl.TraceResult{Path: 5, Rays: []impl.Ray{behind}})
	later := impl.Ray{X: 5, Y: 0, L: 0.5, M: 0.25, N: 1}
	holdRays(t, "two", roomy([]impl.Face{pane, pane}, pane), aslant, impl.TraceResult{Path: 8, Rays: []impl.Ray{behind, later}})
	// On the axis: the light's own way is the glass's index times its length.
	lens := []impl.Face{{Curve: 0.02, Gap: 3, Index: 1.5}, {Curve: -0.1, Conic: -2, Gap: 2, Index: 2}, {Gap: 1, Index: 1}}
	axis := impl.Ray{N: 1}
	holdRays(t, "axis", lens, impl.Ray{Z: -5, N: 1}, impl.TraceResult{Path: 5 + 1.5*3 + 2*2, Rays: []impl.Ray{axis, axis, axis}})
	holdRays(t, "axis, from behind", lens, impl.Ray{Z: 5, N: 1}, impl.TraceResult{Path: -5 + 1.5*3 + 2*2, Rays: []impl.Ray{axis, axis, axis}})
	// A ray's Z is told from the vertex of the face behind which it is.
	dish := []impl.Face{{Curve: 1, Conic: -1, Gap: 10, Index: 1}, {Gap: 0, Index: 1}}
	got := holdRaysByWords(t, "through", dish, impl.Ray{X: 1, Z: -2, N: 1})
	if got.Rays[0].Z != 0.5 || !near(got.Path, 12) || !near(got.Rays[1].X, 1) {
		t.Error(got)
	}
	// A Gap below 0 goes back to a face ahead.
	back := holdRaysByWords(t, "through", []impl.Face{{Gap: -4, Index: 2}, {Index: 1}}, impl.Ray{Z: -1, N: 1})
	if back.Path != 1-8 {
		t.Error(back)
	}
}

func TestTraceRayIsStuck(t *testing.T) {
	pane, ray := impl.Face{Gap: 1, Index: 1}, impl.Ray{X: 1, Z: -1, L: 0.6, N: 0.8}
	unmet, outside, mirror := impl.Face{Curve: 5, Index: 1}, impl.Face{Index: 1, Semi: 0.5}, impl.Face{Index: 0.25}
	for at := range 5 {
		ahead := slices.Repeat([]impl.Face{pane}, at)
		for _, behind := range [][]impl.Face{nil, {pane}, {unmet}, {outside, mirror}, {mirror}} {
			with := func(f impl.Face) []impl.Face { return slices.Concat(ahead, []impl.Face{f}, behind) }
			holdRays(t, "not met", with(unmet), ray, raysStuck(impl.ErrNone, int64(at)))
			holdRays(t, "outside", with(outside), ray, raysStuck(impl.ErrRange, int64(at)))
			holdRays(t, "reflected", with(mirror), ray, raysStuck(impl.ErrNone, int64(at)))
			holdRaysByWords(t, "not met", with(unmet), ray)
			holdRaysByWords(t, "outside", with(outside), ray)
			holdRaysByWords(t, "reflected", with(mirror), ray)
			// Within a face: first it is met, then come its rim and its glass.
			holdRaysByWords(t, "not met", with(impl.Face{Curve: 5, Index: 0.25, Semi: 0.5}), ray)
			holdRays(t, "outside and reflected", with(impl.Face{Index: 0.25, Semi: 0.5}), ray, raysStuck(impl.ErrRange, int64(at)))
			holdRays(t, "outside, no index", with(impl.Face{Index: math.NaN(), Semi: 0.5}), ray, raysStuck(impl.ErrRange, int64(at)))
			holdRays(t, "no index", with(impl.Face{Index: math.NaN()}), ray, raysStuck(impl.ErrNone, int64(at)))
		}
	}
	holdRays(t, "goes back", []impl.Face{pane}, impl.Ray{Z: -1, N: -1}, raysStuck(impl.ErrNone, 0))
	holdRays(t, "no Gap", []impl.Face{{Gap: math.NaN(), Index: 1}, pane}, ray, raysStuck(impl.ErrNone, 1))
	// The last Gap leads nowhere.
	holdRaysByWords(t, "through", []impl.Face{pane, {Gap: math.NaN(), Index: 1}}, ray)
	holdRaysByWords(t, "through", []impl.Face{pane, {Gap: math.Inf(1), Index: 1}}, ray)
}

func TestTraceRayHasBounds(t *testing.T) {
	pane, ray := impl.Face{Gap: 1, Index: 1}, impl.Ray{Z: -1, N: 1}
	for count := range impl.MaxSurfs + 1 {
		got := holdRaysByWords(t, "through", slices.Repeat([]impl.Face{pane}, count), ray)
		if len(got.Rays) != count || got.Path != float64(count) {
			t.Error(got)
		}
	}
	for _, count := range []int{1, 2, 100} {
		many := slices.Repeat([]impl.Face{pane}, impl.MaxSurfs+count)
		holdRays(t, "many", many, ray, raysStuck(impl.ErrMany, 0))
		holdRays(t, "many, and goes back", many, impl.Ray{N: -1}, raysStuck(impl.ErrMany, 0))
		many[0].Semi = 1
		holdRays(t, "many, and outside", many, impl.Ray{X: 2, N: 1}, raysStuck(impl.ErrMany, 0))
	}
	last := slices.Repeat([]impl.Face{pane}, impl.MaxSurfs)
	last[impl.MaxSurfs-1].Semi = 1
	holdRays(t, "the last one", last, impl.Ray{X: 2, N: 1}, raysStuck(impl.ErrRange, impl.MaxSurfs-1))
}

func TestTraceRayAtTheRim(t *testing.T) {
	at := func(x float64, y float64) impl.Ray { return impl.Ray{X: x, Y: y, Z: -1, N: 1} }
	rim := func(semi float64) []impl.Face { return []impl.Face{{Index: 1.5, Semi: semi}} }
	for _, point := range [][2]float64{{3, 4}, {-3, 4}, {0, 5}, {-5, nought()}} {
		holdRaysByWords(t, "through", rim(5), at(point[0], point[1]))
		holdRays(t, "outside", rim(math.Nextafter(5, 0)), at(point[0], point[1]), raysStuck(impl.ErrRange, 0))
		// Without a rim there is no bound.
		for _, semi := range []float64{0, nought(), -1, math.Inf(-1), math.NaN(), math.Inf(1), 1e200} {
			holdRaysByWords(t, "through", rim(semi), at(point[0], point[1]))
		}
		holdRaysByWords(t, "outside", rim(1e-200), at(point[0], point[1]))
		holdRaysByWords(t, "outside", rim(5e-324), at(point[0], point[1]))
	}
	holdRays(t, "just outside", rim(5), at(math.Nextafter(5, 6), 0), raysStuck(impl.ErrRange, 0))
	// What is rounded away does not lie outside.
	holdRaysByWords(t, "through", rim(5), at(5, 1e-9))
	holdRaysByWords(t, "through", rim(1e-200), at(0, 0))
	holdRaysByWords(t, "through", rim(1e-200), at(1e-180, 0))
	// The point on the face counts, not where the ray came from.
	holdRaysByWords(t, "through", rim(1), impl.Ray{X: 5, Z: -4, L: -1, N: 1})
	holdRays(t, "outside", rim(1), impl.Ray{Z: -4, L: -1, N: 1}, raysStuck(impl.ErrRange, 0))
}

func drawnFaces(draw *numbers, count int64) []impl.Face {
	list := []impl.Face{}
	for range count {
		list = append(list, drawnFace(draw))
	}
	return list
}

func TestTraceDrawnRays(t *testing.T) {
	draw := numbers{state: 102}
	seen, deep := map[string]int{}, 0
	for range 8000 {
		faces, ray := drawnFaces(&draw, draw.below(7)), drawnRay(&draw, 2, 0.3)
		want, why := raysByWords(faces, ray)
		seen[why]++
		if why == "through" && len(faces) > 3 || want.At > 2 {
			deep++
		}
		holdRays(t, why, faces, ray, want)
	}
	if seen["through"] < 2000 || seen["not met"] < 300 || seen["outside"] < 300 || seen["reflected"] < 50 || deep < 500 {
		t.Error(seen, deep)
	}
}

func TestTraceEveryEdge(t *testing.T) {
	draw := numbers{state: 103}
	seen := map[string]int{}
	for range 10000 {
		faces := drawnFaces(&draw, 1+draw.below(3))
		for range 1 + draw.below(3) {
			i := draw.below(int64(len(faces)))
			list := floatsOfFace(faces[i])
			list[draw.below(5)] = drawnEdge(&draw)
			faces[i] = impl.Face{Curve: list[0], Conic: list[1], Gap: list[2], Index: list[3], Semi: list[4]}
		}
		list := floatsOfRay(drawnRay(&draw, 1, 0.3))
		list[draw.below(6)] = drawnEdge(&draw)
		want, why := raysByWords(faces, rayOfFloats(list))
		seen[why]++
		holdRays(t, why, faces, rayOfFloats(list), want)
	}
	if seen["through"] < 500 || seen["not met"] < 500 || seen["outside"] < 100 || seen["reflected"] < 100 {
		t.Error(seen)
	}
}

func TestRayOnTheAxisStaysThere(t *testing.T) {
	draw := numbers{state: 104}
	for range 3000 {
		faces := drawnFaces(&draw, draw.below(10))
		ray := impl.Ray{Z: aroundNought(&draw, 100), N: 1}
		if draw.below(2) == 0 {
			ray.X, ray.M = nought(), nought()
		}
		got := impl.TraceRay(faces, ray)
		if got.Code != impl.OK || len(got.Rays) != len(faces) {
			t.Fatal(faces, ray, got)
		}
		path, ahead, z := 0.0, 1.0, ray.Z
		for i, r := range got.Rays {
			if r.X != 0 || r.Y != 0 || r.L != 0 || r.M != 0 || !near(r.N, 1) || math.Abs(r.Z) > impl.Near {
				t.Fatal(faces, ray, i, r)
			}
			path, ahead, z = path-ahead*z, faces[i].Index, -faces[i].Gap
		}
		if !near(got.Path, path) {
			t.Fatal(faces, ray, got.Path, path)
		}
	}
}

// TestLightGoesTheMirroredWay: a ray that is mirrored at a plane through the axis, or whose sides change places, comes through so, to the last bit but for the signs of noughts.
func TestLightGoesTheMirroredWay(t *testing.T) {
	mirrors := []func(impl.Ray) impl.Ray{
		func(r impl.Ray) impl.Ray { r.X, r.L = -r.X, -r.L; return r },
		func(r impl.Ray) impl.Ray { r.Y, r.M = -r.Y, -r.M; return r },
		func(r impl.Ray) impl.Ray { r.X, r.L, r.Y, r.M = -r.X, -r.L, -r.Y, -r.M; return r },
		func(r impl.Ray) impl.Ray { r.X, r.L, r.Y, r.M = r.Y, r.M, r.X, r.L; return r },
	}
	draw := numbers{state: 105}
	through := 0
	for range 2000 {
		faces, ray := drawnFaces(&draw, 1+draw.below(5)), drawnRay(&draw, 2, 0.3)
		want := impl.TraceRay(faces, ray)
		for _, mirror := range mirrors {
			got := impl.TraceRay(faces, mirror(ray))
			if got.Code != want.Code || got.At != want.At || got.Path != want.Path || len(got.Rays) != len(want.Rays) {
				t.Fatal(faces, ray, got, want)
			}
			for i, r := range want.Rays {
				if got.Rays[i] != mirror(r) {
					t.Fatal(faces, ray, i, got.Rays[i], mirror(r))
				}
			}
		}
		if want.Code == impl.OK {
			through++
		}
	}
	if through < 500 {
		t.Error(through)
	}
}

// TestRaysNearTheAxisAgree: so near the axis, real rays go as chapter 7's do, through lenses of chapter 8.
func TestRaysNearTheAxisAgree(t *testing.T) {
	draw := numbers{state: 106}
	for range 500 {
		list := []impl.PlainSurf{}
		for range 1 + draw.below(5) {
			s := plain(toldOf(ratOf(frac(draw.below(21)-10, 200))).Frac, frac(draw.below(9), 1), toldOf(ratOf(frac(10+draw.below(10), 10))).Frac)
			s.Conic, s.Semi = frac(draw.below(5)-3, 1), frac(draw.below(2), 1)
			list = append(list, s)
		}
		parts := impl.PartsOf(list)
		if parts.Code != impl.OK {
			t.Fatal(list, parts)
		}
		const small = 1e-6
		y, u := small, -small/8
		got := impl.TraceRay(impl.FacesOf(list), impl.Ray{X: y, L: u, N: 1})
		if got.Code != impl.OK {
			t.Fatal(list, got)
		}
		for i, r := range got.Rays {
			power, gap := floatByWords(parts.List[2*i].Value), floatByWords(parts.List[2*i+1].Value)
			// Of such a ray u is the slope times the index.
			u -= power * y
			slope := u / floatByWords(list[i].Index)
			if math.Abs(r.X-y) > small*1e-6 || math.Abs(r.L/r.N-slope) > small*1e-6 || r.Y != 0 {
				t.Fatal(list, i, r, y, u)
			}
			y += gap * u
		}
	}
}
