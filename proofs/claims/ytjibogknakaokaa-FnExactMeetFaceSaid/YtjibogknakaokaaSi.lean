/- The program's sag of a face. -/
import Derived.Test.YtjibogknakaokaaSh
import Derived.Test.YtjibogknakaokaaRh
namespace Go.Proofs.Ytjibogknakaokaa
open Go.RowKit Fl
set_option linter.unusedVariables false
set_option linter.unusedSimpArgs false
theorem cell_alloc_new {W : World} {c : Array Value} {t : TypeId} {r j : Nat} {v : Value} (hr : r = W.heap.size) (hc : c[j]? = some v) : (W.alloc (.cells c t)).cell? ⟨r, j, none⟩ = some v := (Blk.new hr).cell hc
theorem meth_plane : (Try.prog.info? 142).bind (fun i => (i.methods.find? (fun m => m.name == "loop.example/g00049/impl.sagAt")).map (fun m => (m.path.toList, m.func))) = some ([], some (127, false)) := by kernel_rfl
theorem meth_conic : (Try.prog.info? 144).bind (fun i => (i.methods.find? (fun m => m.name == "loop.example/g00049/impl.sagAt")).map (fun m => (m.path.toList, m.func))) = some ([], some (129, false)) := by kernel_rfl
theorem nil_plane (v : Value) (w : World) : (nilAhead 270 142 v "loop.example/g00049/impl.sagAt").run Try.prog w = .ok (some false) w := by
  obtain ⟨i, hi, h⟩ := Option.bind_eq_some_iff.1 meth_plane
  obtain ⟨m, hm, e⟩ := Option.map_eq_some_iff.1 h
  obtain ⟨e1, e2⟩ := Prod.mk.inj e
  unfold nilAhead
  simp [go_sem, typeInfo, hi, hm, e1, e2, followBlind]
theorem nil_conic (v : Value) (w : World) : (nilAhead 270 144 v "loop.example/g00049/impl.sagAt").run Try.prog w = .ok (some false) w := by
  obtain ⟨i, hi, h⟩ := Option.bind_eq_some_iff.1 meth_conic
  obtain ⟨m, hm, e⟩ := Option.map_eq_some_iff.1 h
  obtain ⟨e1, e2⟩ := Prod.mk.inj e
  unfold nilAhead
  simp [go_sem, typeInfo, hi, hm, e1, e2, followBlind]
set_option maxRecDepth 20000 in
set_option maxHeartbeats 6400000 in
theorem iSagP_any {g : Nat → Nat} {G : Nat → Option Nat} {x y : Nat} {X Y : Option Nat} (hg : Gc g G) (hx : Fc x X) (hy : Fc y Y) (hP : isPl (G 0) (G 1) = true) (w : World) : SV 31 #[Gv g, .float .f64 x, .float .f64 y] w (planeC (G 0) (sqr X Y)) := by
  unfold SV
  have H : Hid (Gc g G ∧ Fc x X ∧ Fc y Y) := ⟨hg, hx, hy⟩
  have HS : Hid (∀ W, Calls Try.prog 67 #[Gv g] W fun e w' => e = .returned (shp true g) ∧ Below W.heap.size W w') := fun W => by have := iShape_any hg W; rw [hP] at this; exact this
  clear hg hx hy hP
  have hst := st64
  have hnil := nil_plane
  obtain ⟨Z, hZ⟩ : ∃ Z, Z = w.alloc (.cells #[.float .f64 (g 0), .float .f64 (g 1), .float .f64 (g 2), .float .f64 (g 3), .float .f64 (g 4)] 57) := ⟨_, rfl⟩
  have h0 : Own (w.heap.size + 1) Z (w.heap.size + 1) 3 55 (Z.alloc (.cells #[.int .i64 0, .float .f64 0, .float .f64 0] 55)) := by
    have := own_made (X := Z) (t := 55) (B := w.heap.size + 1) #[.int .i64 0, .float .f64 0, .float .f64 0] (by rw [hZ]; simp)
    rw [hZ] at this ⊢
    simpa using this
  have k0 : ∀ W, Own (w.heap.size + 1) Z (w.heap.size + 1) 3 55 W → W.cell? ⟨w.heap.size, 0, none⟩ = some (.float .f64 (g 0)) := fun _ h => by rw [hZ] at h; exact h.old (by simp) (cell_alloc_new rfl rfl)
  have k1 : ∀ W, Own (w.heap.size + 1) Z (w.heap.size + 1) 3 55 W → W.cell? ⟨w.heap.size, 1, none⟩ = some (.float .f64 (g 1)) := fun _ h => by rw [hZ] at h; exact h.old (by simp) (cell_alloc_new rfl rfl)
  have k2 : ∀ W, Own (w.heap.size + 1) Z (w.heap.size + 1) 3 55 W → W.cell? ⟨w.heap.size, 2, none⟩ = some (.float .f64 (g 2)) := fun _ h => by rw [hZ] at h; exact h.old (by simp) (cell_alloc_new rfl rfl)
  have k3 : ∀ W, Own (w.heap.size + 1) Z (w.heap.size + 1) 3 55 W → W.cell? ⟨w.heap.size, 3, none⟩ = some (.float .f64 (g 3)) := fun _ h => by rw [hZ] at h; exact h.old (by simp) (cell_alloc_new rfl rfl)
  have k4 : ∀ W, Own (w.heap.size + 1) Z (w.heap.size + 1) 3 55 W → W.cell? ⟨w.heap.size, 4, none⟩ = some (.float .f64 (g 4)) := fun _ h => by rw [hZ] at h; exact h.old (by simp) (cell_alloc_new rfl rfl)
  have g0 : ∀ W, Own (w.heap.size + 1) Z (w.heap.size + 1) 3 55 W → W.cell? ⟨w.heap.size + 1, 0, none⟩ = some (got W (w.heap.size + 1) 0) := fun _ h => h.cell (by omega)
  have g1 : ∀ W, Own (w.heap.size + 1) Z (w.heap.size + 1) 3 55 W → W.cell? ⟨w.heap.size + 1, 1, none⟩ = some (got W (w.heap.size + 1) 1) := fun _ h => h.cell (by omega)
  have g2 : ∀ W, Own (w.heap.size + 1) Z (w.heap.size + 1) 3 55 W → W.cell? ⟨w.heap.size + 1, 2, none⟩ = some (got W (w.heap.size + 1) 2) := fun _ h => h.cell (by omega)
  have gf : ∀ W j, Own (w.heap.size + 1) Z (w.heap.size + 1) 3 55 W → W.frozen? ⟨w.heap.size + 1, j, none⟩ = false := fun _ j h => h.frozen j
  have HX : Hid (Below w.heap.size w Z) := by show Below w.heap.size w Z; rw [hZ]; exact (Below.refl _ _).alloc (Nat.le_refl _) _
  go_enter Try.func31, Try.ntmps31
  go_upto_region 1 with fail
  rw [← hZ]
  obtain ⟨Y1, hY1⟩ : ∃ Y1, Y1 = Z.alloc (.cells #[.int .i64 0, .float .f64 0, .float .f64 0] 55) := ⟨_, rfl⟩
  rw [← hY1] at h0 ⊢
  clear hZ hY1
  go_region_held (fun W => Own (w.heap.size + 1) Z (w.heap.size + 1) 3 55 W) (first | with_reducible assumption | with_reducible exact Own.drew ‹_› | with_reducible exact Own.drewN ‹_› _ | with_reducible exact Own.set (Own.set (Own.set ‹_› _ _) _ _) _ _)
    (first | (go_at_call 67; refine (HS.out _).mono ?_; rintro e wz ⟨rfl, hb1⟩; have hR1 := Own.call ‹_› hb1; unfold shp) | (go_at_call 68; refine (iSquare_any H.out.2.1 H.out.2.2 _).mono ?_; rintro e wz ⟨zr, rfl, hzr, hb1⟩; replace hzr : Hid _ := hzr; have hR1 := Own.call ‹_› hb1) | (go_at_call 127; refine (iPlane_any (H.out.1.h 0 (by decide)) hzr.out _).mono ?_; rintro e wz ⟨zs, zu, rfl, hzs, hb1⟩; replace hzs : Hid _ := hzs; have hR1 := Own.call ‹_› hb1))
  all_goals
    have c0 := g0 _ hR1
    have c1 := g1 _ hR1
    have c2 := g2 _ hR1
    clear k0 k1 k2 k3 k4 g0 g1 g2 gf
    go_wp2
    refine bodyPost_ret (v := Hv (codeOf (planeC (G 0) (sqr X Y))) zs zu) (by simp [results, Try.results31, go_sem, c0, c1, c2] <;> (repeat' (first | rfl | apply And.intro))) rfl ⟨_, _, rfl, hzs.out, ?_⟩
    exact Own.out (Own.set (Own.set (Own.set hR1 _ _) _ _) _ _) HX.out (by omega)
set_option maxRecDepth 20000 in
set_option maxHeartbeats 6400000 in
theorem iSagC_any {g : Nat → Nat} {G : Nat → Option Nat} {x y : Nat} {X Y : Option Nat} (hg : Gc g G) (hx : Fc x X) (hy : Fc y Y) (hP : isPl (G 0) (G 1) = false) (w : World) : SV 31 #[Gv g, .float .f64 x, .float .f64 y] w (sagC (G 0) (G 1) (sqr X Y)) := by
  unfold SV
  have H : Hid (Gc g G ∧ Fc x X ∧ Fc y Y) := ⟨hg, hx, hy⟩
  have HS : Hid (∀ W, Calls Try.prog 67 #[Gv g] W fun e w' => e = .returned (shp false g) ∧ Below W.heap.size W w') := fun W => by have := iShape_any hg W; rw [hP] at this; exact this
  clear hg hx hy hP
  have hst := st64
  have hnil := nil_conic
  obtain ⟨Z, hZ⟩ : ∃ Z, Z = w.alloc (.cells #[.float .f64 (g 0), .float .f64 (g 1), .float .f64 (g 2), .float .f64 (g 3), .float .f64 (g 4)] 57) := ⟨_, rfl⟩
  have h0 : Own (w.heap.size + 1) Z (w.heap.size + 1) 3 55 (Z.alloc (.cells #[.int .i64 0, .float .f64 0, .float .f64 0] 55)) := by
    have := own_made (X := Z) (t := 55) (B := w.heap.size + 1) #[.int .i64 0, .float .f64 0, .float .f64 0] (by rw [hZ]; simp)
    rw [hZ] at this ⊢
    simpa using this
  have k0 : ∀ W, Own (w.heap.size + 1) Z (w.heap.size + 1) 3 55 W → W.cell? ⟨w.heap.size, 0, none⟩ = some (.float .f64 (g 0)) := fun _ h => by rw [hZ] at h; exact h.old (by simp) (cell_alloc_new rfl rfl)
  have k1 : ∀ W, Own (w.heap.size + 1) Z (w.heap.size + 1) 3 55 W → W.cell? ⟨w.heap.size, 1, none⟩ = some (.float .f64 (g 1)) := fun _ h => by rw [hZ] at h; exact h.old (by simp) (cell_alloc_new rfl rfl)
  have k2 : ∀ W, Own (w.heap.size + 1) Z (w.heap.size + 1) 3 55 W → W.cell? ⟨w.heap.size, 2, none⟩ = some (.float .f64 (g 2)) := fun _ h => by rw [hZ] at h; exact h.old (by simp) (cell_alloc_new rfl rfl)
  have k3 : ∀ W, Own (w.heap.size + 1) Z (w.heap.size + 1) 3 55 W → W.cell? ⟨w.heap.size, 3, none⟩ = some (.float .f64 (g 3)) := fun _ h => by rw [hZ] at h; exact h.old (by simp) (cell_alloc_new rfl rfl)
  have k4 : ∀ W, Own (w.heap.size + 1) Z (w.heap.size + 1) 3 55 W → W.cell? ⟨w.heap.size, 4, none⟩ = some (.float .f64 (g 4)) := fun _ h => by rw [hZ] at h; exact h.old (by simp) (cell_alloc_new rfl rfl)
  have g0 : ∀ W, Own (w.heap.size + 1) Z (w.heap.size + 1) 3 55 W → W.cell? ⟨w.heap.size + 1, 0, none⟩ = some (got W (w.heap.size + 1) 0) := fun _ h => h.cell (by omega)
  have g1 : ∀ W, Own (w.heap.size + 1) Z (w.heap.size + 1) 3 55 W → W.cell? ⟨w.heap.size + 1, 1, none⟩ = some (got W (w.heap.size + 1) 1) := fun _ h => h.cell (by omega)
  have g2 : ∀ W, Own (w.heap.size + 1) Z (w.heap.size + 1) 3 55 W → W.cell? ⟨w.heap.size + 1, 2, none⟩ = some (got W (w.heap.size + 1) 2) := fun _ h => h.cell (by omega)
  have gf : ∀ W j, Own (w.heap.size + 1) Z (w.heap.size + 1) 3 55 W → W.frozen? ⟨w.heap.size + 1, j, none⟩ = false := fun _ j h => h.frozen j
  have HX : Hid (Below w.heap.size w Z) := by show Below w.heap.size w Z; rw [hZ]; exact (Below.refl _ _).alloc (Nat.le_refl _) _
  go_enter Try.func31, Try.ntmps31
  go_upto_region 1 with fail
  rw [← hZ]
  obtain ⟨Y1, hY1⟩ : ∃ Y1, Y1 = Z.alloc (.cells #[.int .i64 0, .float .f64 0, .float .f64 0] 55) := ⟨_, rfl⟩
  rw [← hY1] at h0 ⊢
  clear hZ hY1
  go_region_held (fun W => Own (w.heap.size + 1) Z (w.heap.size + 1) 3 55 W) (first | with_reducible assumption | with_reducible exact Own.drew ‹_› | with_reducible exact Own.drewN ‹_› _ | with_reducible exact Own.set (Own.set (Own.set ‹_› _ _) _ _) _ _)
    (first | (go_at_call 67; refine (HS.out _).mono ?_; rintro e wz ⟨rfl, hb1⟩; have hR1 := Own.call ‹_› hb1; unfold shp) | (go_at_call 68; refine (iSquare_any H.out.2.1 H.out.2.2 _).mono ?_; rintro e wz ⟨zr, rfl, hzr, hb1⟩; replace hzr : Hid _ := hzr; have hR1 := Own.call ‹_› hb1) | (go_at_call 129; refine (iConic_any (H.out.1.h 0 (by decide)) (H.out.1.h 1 (by decide)) hzr.out _).mono ?_; rintro e wz ⟨zs, zu, rfl, hzs, hb1⟩; replace hzs : Hid _ := hzs; have hR1 := Own.call ‹_› hb1))
  all_goals
    have c0 := g0 _ hR1
    have c1 := g1 _ hR1
    have c2 := g2 _ hR1
    clear k0 k1 k2 k3 k4 g0 g1 g2 gf
    go_wp2
    refine bodyPost_ret (v := Hv (codeOf (sagC (G 0) (G 1) (sqr X Y))) zs zu) (by simp [results, Try.results31, go_sem, c0, c1, c2] <;> (repeat' (first | rfl | apply And.intro))) rfl ⟨_, _, rfl, hzs.out, ?_⟩
    exact Own.out (Own.set (Own.set (Own.set hR1 _ _) _ _) _ _) HX.out (by omega)
theorem iSag_any {g : Nat → Nat} {G : Nat → Option Nat} {x y : Nat} {X Y : Option Nat} (hg : Gc g G) (hx : Fc x X) (hy : Fc y Y) (w : World) : SV 31 #[Gv g, .float .f64 x, .float .f64 y] w (sagC (G 0) (G 1) (sqr X Y)) := by
  cases h : isPl (G 0) (G 1) with
  | true =>
    rw [plane_is (hg.h 0 (by decide)).wc (hg.h 1 (by decide)).wc hx.wc hy.wc h]
    exact iSagP_any hg hx hy h w
  | false => exact iSagC_any hg hx hy h w
end Go.Proofs.Ytjibogknakaokaa
