/- SlopeAt: contracts of both packages. -/
import Derived.Test.YtndfncjoknibaaaDoorIa
namespace Go.Proofs.YtndfncjoknibaaaDoor
open Go.RowKit Fl
set_option linter.unusedVariables false
theorem cf_ok {g lo hi a b : Int} (h : cfault g lo hi a b = 0) : g = 0 ∧ lo ≤ a ∧ b ≤ hi := by
  have e := cf_zero h
  subst e
  refine ⟨rfl, ?_⟩
  by_cases k : lo ≤ a ∧ b ≤ hi
  · exact k
  · rw [cf_out k] at h; exact absurd h (by decide)
theorem cf_both {g lo hi nm : Int} (h : ¬ cfault g lo hi nm nm = 0) : cfault g lo hi (nm - 1) (nm + 1) = cfault g lo hi nm nm := by
  by_cases e : g = 0
  · subst e
    have k : ¬ (lo ≤ nm ∧ nm ≤ hi) := fun k => h (cf_in k.1 k.2)
    rw [cf_out k, cf_out (by omega)]
  · rw [cf_g e, cf_g e]
theorem range_t {lo hi : Int} (h : rangeB lo hi = true) : 1 ≤ lo ∧ hi ≤ 100000 ∧ lo ≤ hi := by unfold rangeB at h; simp at h; omega
set_option maxHeartbeats 3200000 in
theorem sSl_any {s : ByteArray} {kd lo hi nm : Int} {v : Value} {n : Nat} {f : Nat → Int} {x : Nat} {w : World} (h : RdRow w v n f) (hn : n ≤ 1000000000000) (hx : x < 18446744073709551616) :
    RV 18 #[.agg #[.string s, .int .i64 kd, .int .i64 lo, .int .i64 hi, v, .float .f64 x], .int .i64 nm] w (cfault (gfault s kd lo hi n f x) lo hi (nm - 1) (nm + 1)) (ixOut (cfault (gfault s kd lo hi n f x) lo hi (nm - 1) (nm + 1)) (opC .quo (opC .sub (ixC kd f (nm + 1) x) (ixC kd f (nm - 1) x)) (cl 4611686018427387904))) := by
  have hst := st64
  have hadd := add_run
  have hsub := sub_run
  have hquo := quo_run
  have hc1 := cell_opW
  have hc2 := frozen_opW
  obtain ⟨ao, cap, rfl⟩ := h.shape
  have H : Hid (RdRow w (.slice ao n cap) n f) := h
  clear h
  unfold RV
  go_enter Tryd.func18, Tryd.ntmps18
  obtain ⟨X, hX⟩ : ∃ X, X = w.alloc (.cells #[.string s, .int .i64 kd, .int .i64 lo, .int .i64 hi, .slice ao n cap, .float .f64 x] 28) := ⟨_, rfl⟩
  have hXs : X.heap.size = w.heap.size + 1 := by rw [hX]; simp
  have HX : Hid (Below w.heap.size w X ∧ Six X w.heap.size (.string s) (.int .i64 kd) (.int .i64 lo) (.int .i64 hi) (.slice ao n cap) (.float .f64 x)) := by
    rw [hX]; exact ⟨(Below.refl _ _).alloc (Nat.le_refl _) _, six_new _ _ _ _ _ _ _ _⟩
  obtain ⟨Y, hY⟩ : ∃ Y, Y = X.alloc (.cells #[.int .i64 0, .float .f64 0] 33) := ⟨_, rfl⟩
  have OY : Own (w.heap.size + 1) X (w.heap.size + 1) 2 33 Y := by
    have h1 := own_made (t := 33) #[.int .i64 0, .float .f64 0] (B := w.heap.size + 1) (X := X) (by omega)
    rw [hXs] at h1
    rw [hY]; exact h1
  have HY : Hid (Own (w.heap.size + 1) X (w.heap.size + 1) 2 33 Y ∧ Below w.heap.size w Y) := ⟨OY, OY.out HX.out.1 (by omega)⟩
  have z0 : ∀ W, Own (w.heap.size + 1) X (w.heap.size + 1) 2 33 W → W.cell? ⟨w.heap.size, 0, none⟩ = some (.string s) := fun W h => (HX.out.2.below h.below (by omega)).c0
  have z1 : ∀ W, Own (w.heap.size + 1) X (w.heap.size + 1) 2 33 W → W.cell? ⟨w.heap.size, 1, none⟩ = some (.int .i64 kd) := fun W h => (HX.out.2.below h.below (by omega)).c1
  have z2 : ∀ W, Own (w.heap.size + 1) X (w.heap.size + 1) 2 33 W → W.cell? ⟨w.heap.size, 2, none⟩ = some (.int .i64 lo) := fun W h => (HX.out.2.below h.below (by omega)).c2
  have z3 : ∀ W, Own (w.heap.size + 1) X (w.heap.size + 1) 2 33 W → W.cell? ⟨w.heap.size, 3, none⟩ = some (.int .i64 hi) := fun W h => (HX.out.2.below h.below (by omega)).c3
  have z4 : ∀ W, Own (w.heap.size + 1) X (w.heap.size + 1) 2 33 W → W.cell? ⟨w.heap.size, 4, none⟩ = some (.slice ao n cap) := fun W h => (HX.out.2.below h.below (by omega)).c4
  have z5 : ∀ W, Own (w.heap.size + 1) X (w.heap.size + 1) 2 33 W → W.cell? ⟨w.heap.size, 5, none⟩ = some (.float .f64 x) := fun W h => (HX.out.2.below h.below (by omega)).c5
  have HR : Hid (∀ W, Own (w.heap.size + 1) X (w.heap.size + 1) 2 33 W → RdRow W (.slice ao n cap) n f) := fun W h => H.out.later (h.out HX.out.1 (by omega))
  have g0 : ∀ W, Own (w.heap.size + 1) X (w.heap.size + 1) 2 33 W → W.cell? ⟨w.heap.size + 1, 0, none⟩ = some (got W (w.heap.size + 1) 0) := fun W h => h.cell (by omega)
  have g1 : ∀ W, Own (w.heap.size + 1) X (w.heap.size + 1) 2 33 W → W.cell? ⟨w.heap.size + 1, 1, none⟩ = some (got W (w.heap.size + 1) 1) := fun W h => h.cell (by omega)
  have gf : ∀ W j, Own (w.heap.size + 1) X (w.heap.size + 1) 2 33 W → W.frozen? ⟨w.heap.size + 1, j, none⟩ = false := fun W j h => h.frozen j
  clear OY H
  go_wp2_with fail
  rw [← hX, ← hY]
  clear hX hY hXs
  refine (sGF_any (HR.out _ HY.out.1) hn).mono ?_
  rintro e w1 ⟨rfl, b1⟩
  have O1 := HY.out.1.call b1
  clear b1
  generalize hcode : gfault s kd lo hi n f x = code
  by_cases hz : code = 0
  · subst hz
    have HG : Hid (gfault s kd lo hi n f x = 0) := hcode
    clear hcode
    by_cases r1 : nm ≤ lo
    · have HE : Hid (cfault (gfault s kd lo hi n f x) lo hi (nm - 1) (nm + 1) = 3) := (show cfault (gfault s kd lo hi n f x) lo hi (nm - 1) (nm + 1) = 3 by rw [HG.out]; exact cf_out (by omega))
      have e0 := g0 _ O1
      have e1 := g1 _ O1
      go_wp2
      refine bodyPost_ret (v := .agg #[.int .i64 3, .float .f64 0]) (by simp [results, Tryd.results18, go_sem, e0, e1]) rfl ⟨_, (by rw [HE.out]), ixOut_no (by rw [HE.out]; decide), ((Own.set (Own.set O1 0 _) 1 _).out HX.out.1 (by omega))⟩
    · by_cases r2 : hi ≤ nm
      · have HE : Hid (cfault (gfault s kd lo hi n f x) lo hi (nm - 1) (nm + 1) = 3) := (show cfault (gfault s kd lo hi n f x) lo hi (nm - 1) (nm + 1) = 3 by rw [HG.out]; exact cf_out (by omega))
        have e0 := g0 _ O1
        have e1 := g1 _ O1
        go_wp2
        refine bodyPost_ret (v := .agg #[.int .i64 3, .float .f64 0]) (by simp [results, Tryd.results18, go_sem, e0, e1]) rfl ⟨_, (by rw [HE.out]), ixOut_no (by rw [HE.out]; decide), ((Own.set (Own.set O1 0 _) 1 _).out HX.out.1 (by omega))⟩
      · have HE : Hid (cfault (gfault s kd lo hi n f x) lo hi (nm - 1) (nm + 1) = 0) := (show cfault (gfault s kd lo hi n f x) lo hi (nm - 1) (nm + 1) = 0 by rw [HG.out]; exact cf_in (by omega) (by omega))
        obtain ⟨p1, p2, p3⟩ := range_t (gfault_zero HG.out).2.2.1
        have HM : Hid (many kd = (n : Int)) := (gfault_zero HG.out).2.1
        have q1 : IntKind.i64.wrap (nm + 1) = nm + 1 := by rw [IntKind.wrap_i64]; omega
        have q2 : IntKind.i64.wrap (nm - 1) = nm - 1 := by rw [IntKind.wrap_i64]; omega
        have hk := fc_own (x := 4611686018427387904) (by omega)
        go_wp2_with fail
        go_region_held (fun W => Own (w.heap.size + 1) X (w.heap.size + 1) 2 33 W) (first | with_reducible assumption | with_reducible exact Own.drew ‹_› | with_reducible exact Own.opW ‹_› _ _ _ | with_reducible exact Own.set (Own.set ‹_› _ _) _ _)
          (first | (go_at_call 51; refine (sIx_any (HR.out _ (by with_reducible (first | assumption | exact Own.drew ‹_› | exact Own.opW ‹_› _ _ _))) HM.out hx).mono ?_; rintro e w4 ⟨y, rfl, hy, hb⟩; have hO : Own (w.heap.size + 1) X (w.heap.size + 1) 2 33 w4 := Own.call (by with_reducible (first | assumption | exact Own.drew ‹_› | exact Own.opW ‹_› _ _ _)) hb; clear hb))
        all_goals
          have e0 := g0 _ hO
          have e1 := g1 _ hO
          go_wp2
          refine bodyPost_ret (v := .agg #[.int .i64 0, .float .f64 _]) (by simp [results, Tryd.results18, go_sem, e0, e1, hc1]; exact rfl) rfl ⟨_, (by rw [HE.out]), ixOut_yes HE.out (by skip; repeat' (first | with_reducible assumption | (refine fc_op _ ?_ ?_ _))), Own.out (by with_reducible assumption) HX.out.1 (by omega)⟩
  · have HE : Hid (cfault (gfault s kd lo hi n f x) lo hi (nm - 1) (nm + 1) = code) := (show cfault (gfault s kd lo hi n f x) lo hi (nm - 1) (nm + 1) = code by rw [hcode]; exact cf_g hz)
    clear hcode
    have e0 := g0 _ O1
    have e1 := g1 _ O1
    go_wp2
    refine bodyPost_ret (v := .agg #[.int .i64 code, .float .f64 0]) (by simp [results, Tryd.results18, go_sem, e0, e1]) rfl ⟨_, (by rw [HE.out]), ixOut_no (by rw [HE.out]; exact hz), ((Own.set (Own.set O1 0 _) 1 _).out HX.out.1 (by omega))⟩
set_option maxHeartbeats 3200000 in
theorem iSl_any {s : ByteArray} {kd lo hi nm : Int} {v : Value} {n : Nat} {f : Nat → Int} {x : Nat} {w : World} (h : RdRow w v n f) (T : Tab w) (hn : n ≤ 1000000000000) (hx : x < 18446744073709551616) :
    RV 19 #[.agg #[.string s, .int .i64 kd, .int .i64 lo, .int .i64 hi, v, .float .f64 x], .int .i64 nm] w (cfault (gfault s kd lo hi n f x) lo hi (nm - 1) (nm + 1)) (ixOut (cfault (gfault s kd lo hi n f x) lo hi (nm - 1) (nm + 1)) (opC .quo (opC .sub (ixC kd f (nm + 1) x) (ixC kd f (nm - 1) x)) (cl 4611686018427387904))) := by
  have hst := st64
  have hadd := add_run
  have hsub := sub_run
  have hquo := quo_run
  have hc1 := cell_opW
  have hc2 := frozen_opW
  obtain ⟨ao, cap, rfl⟩ := h.shape
  have H : Hid (RdRow w (.slice ao n cap) n f ∧ Tab w) := ⟨h, T⟩
  clear h T
  unfold RV
  go_enter Tryd.func19, Tryd.ntmps19
  obtain ⟨X, hX⟩ : ∃ X, X = w.alloc (.cells #[.string s, .int .i64 kd, .int .i64 lo, .int .i64 hi, .slice ao n cap, .float .f64 x] 28) := ⟨_, rfl⟩
  have hXs : X.heap.size = w.heap.size + 1 := by rw [hX]; simp
  have HX : Hid (Below w.heap.size w X ∧ Six X w.heap.size (.string s) (.int .i64 kd) (.int .i64 lo) (.int .i64 hi) (.slice ao n cap) (.float .f64 x)) := by
    rw [hX]; exact ⟨(Below.refl _ _).alloc (Nat.le_refl _) _, six_new _ _ _ _ _ _ _ _⟩
  obtain ⟨Y, hY⟩ : ∃ Y, Y = X.alloc (.cells #[.int .i64 0, .float .f64 0] 33) := ⟨_, rfl⟩
  have OY : Own (w.heap.size + 1) X (w.heap.size + 1) 2 33 Y := by
    have h1 := own_made (t := 33) #[.int .i64 0, .float .f64 0] (B := w.heap.size + 1) (X := X) (by omega)
    rw [hXs] at h1
    rw [hY]; exact h1
  have HY : Hid (Own (w.heap.size + 1) X (w.heap.size + 1) 2 33 Y ∧ Below w.heap.size w Y) := ⟨OY, OY.out HX.out.1 (by omega)⟩
  have z0 : ∀ W, Own (w.heap.size + 1) X (w.heap.size + 1) 2 33 W → W.cell? ⟨w.heap.size, 0, none⟩ = some (.string s) := fun W h => (HX.out.2.below h.below (by omega)).c0
  have z1 : ∀ W, Own (w.heap.size + 1) X (w.heap.size + 1) 2 33 W → W.cell? ⟨w.heap.size, 1, none⟩ = some (.int .i64 kd) := fun W h => (HX.out.2.below h.below (by omega)).c1
  have z2 : ∀ W, Own (w.heap.size + 1) X (w.heap.size + 1) 2 33 W → W.cell? ⟨w.heap.size, 2, none⟩ = some (.int .i64 lo) := fun W h => (HX.out.2.below h.below (by omega)).c2
  have z3 : ∀ W, Own (w.heap.size + 1) X (w.heap.size + 1) 2 33 W → W.cell? ⟨w.heap.size, 3, none⟩ = some (.int .i64 hi) := fun W h => (HX.out.2.below h.below (by omega)).c3
  have z4 : ∀ W, Own (w.heap.size + 1) X (w.heap.size + 1) 2 33 W → W.cell? ⟨w.heap.size, 4, none⟩ = some (.slice ao n cap) := fun W h => (HX.out.2.below h.below (by omega)).c4
  have z5 : ∀ W, Own (w.heap.size + 1) X (w.heap.size + 1) 2 33 W → W.cell? ⟨w.heap.size, 5, none⟩ = some (.float .f64 x) := fun W h => (HX.out.2.below h.below (by omega)).c5
  have HR : Hid (∀ W, Own (w.heap.size + 1) X (w.heap.size + 1) 2 33 W → RdRow W (.slice ao n cap) n f) := fun W h => H.out.1.later (h.out HX.out.1 (by omega))
  have HT : Hid (∀ W, Own (w.heap.size + 1) X (w.heap.size + 1) 2 33 W → Tab W) := fun W h => H.out.2.later (h.out HX.out.1 (by omega))
  have g0 : ∀ W, Own (w.heap.size + 1) X (w.heap.size + 1) 2 33 W → W.cell? ⟨w.heap.size + 1, 0, none⟩ = some (got W (w.heap.size + 1) 0) := fun W h => h.cell (by omega)
  have g1 : ∀ W, Own (w.heap.size + 1) X (w.heap.size + 1) 2 33 W → W.cell? ⟨w.heap.size + 1, 1, none⟩ = some (got W (w.heap.size + 1) 1) := fun W h => h.cell (by omega)
  have gf : ∀ W j, Own (w.heap.size + 1) X (w.heap.size + 1) 2 33 W → W.frozen? ⟨w.heap.size + 1, j, none⟩ = false := fun W j h => h.frozen j
  clear OY H
  go_wp2_with fail
  rw [← hX, ← hY]
  clear hX hY hXs
  refine (iCF_any (HR.out _ HY.out.1) (HT.out _ HY.out.1)).mono ?_
  rintro e w1 ⟨rfl, b1⟩
  have O1 := HY.out.1.call b1
  clear b1
  generalize hcode : cfault (gfault s kd lo hi n f x) lo hi nm nm = code
  by_cases hz : code = 0
  · subst hz
    have HG : Hid (gfault s kd lo hi n f x = 0 ∧ lo ≤ nm ∧ nm ≤ hi) := cf_ok hcode
    clear hcode
    obtain ⟨p1, p2, p3⟩ := range_t (gfault_zero HG.out.1).2.2.1
    have p4 := HG.out.2.1
    have p5 := HG.out.2.2
    have HM : Hid (many kd = (n : Int)) := (gfault_zero HG.out.1).2.1
    have q1 : IntKind.i64.wrap (nm + 1) = nm + 1 := by rw [IntKind.wrap_i64]; omega
    have q2 : IntKind.i64.wrap (nm - 1) = nm - 1 := by rw [IntKind.wrap_i64]; omega
    go_wp2_with fail
    refine (iCF_any (HR.out _ O1) (HT.out _ O1)).mono ?_
    rintro e w2 ⟨rfl, b2⟩
    have O2 := O1.call b2
    clear b2 O1
    generalize hcode : cfault (gfault s kd lo hi n f x) lo hi (nm - 1) (nm + 1) = code
    have HE : Hid (cfault (gfault s kd lo hi n f x) lo hi (nm - 1) (nm + 1) = code) := hcode
    clear hcode
    by_cases hz : code = 0
    · subst hz
      have hk := fc_own (x := 4611686018427387904) (by omega)
      go_wp2_with fail
      go_region_held (fun W => Own (w.heap.size + 1) X (w.heap.size + 1) 2 33 W) (first | with_reducible assumption | with_reducible exact Own.drew ‹_› | with_reducible exact Own.opW ‹_› _ _ _ | with_reducible exact Own.set (Own.set ‹_› _ _) _ _)
        (first | (go_at_call 53; refine (iIx_any (HR.out _ (by with_reducible (first | assumption | exact Own.drew ‹_› | exact Own.opW ‹_› _ _ _))) HM.out hx).mono ?_; rintro e w4 ⟨y, rfl, hy, hb⟩; have hO : Own (w.heap.size + 1) X (w.heap.size + 1) 2 33 w4 := Own.call (by with_reducible (first | assumption | exact Own.drew ‹_› | exact Own.opW ‹_› _ _ _)) hb; clear hb))
      all_goals
        have e0 := g0 _ hO
        have e1 := g1 _ hO
        go_wp2
        refine bodyPost_ret (v := .agg #[.int .i64 0, .float .f64 _]) (by simp [results, Tryd.results19, go_sem, e0, e1, hc1]; exact rfl) rfl ⟨_, (by rw [HE.out]), ixOut_yes HE.out (by skip; repeat' (first | with_reducible assumption | (refine fc_op _ ?_ ?_ _))), Own.out (by with_reducible assumption) HX.out.1 (by omega)⟩
    · have e0 := g0 _ O2
      have e1 := g1 _ O2
      go_wp2
      refine bodyPost_ret (v := .agg #[.int .i64 code, .float .f64 0]) (by simp [results, Tryd.results19, go_sem, e0, e1]) rfl ⟨_, (by rw [HE.out]), ixOut_no (by rw [HE.out]; exact hz), ((Own.set (Own.set O2 0 _) 1 _).out HX.out.1 (by omega))⟩
  · have HE : Hid (cfault (gfault s kd lo hi n f x) lo hi (nm - 1) (nm + 1) = code) := (show cfault (gfault s kd lo hi n f x) lo hi (nm - 1) (nm + 1) = code by rw [← hcode]; exact cf_both (by rw [hcode]; exact hz))
    clear hcode
    have e0 := g0 _ O1
    have e1 := g1 _ O1
    go_wp2
    refine bodyPost_ret (v := .agg #[.int .i64 code, .float .f64 0]) (by simp [results, Tryd.results19, go_sem, e0, e1]) rfl ⟨_, (by rw [HE.out]), ixOut_no (by rw [HE.out]; exact hz), ((Own.set (Own.set O1 0 _) 1 _).out HX.out.1 (by omega))⟩
end Go.Proofs.YtndfncjoknibaaaDoor
