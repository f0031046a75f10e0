/- SpreadOf: contracts of both packages. -/
import Derived.Test.YtndfncjoknibaaaDoorIs
import Derived.Deep.DeepCutAuto
namespace Go.Proofs.YtndfncjoknibaaaDoor
open Go.RowKit Fl
set_option linter.unusedVariables false
theorem inB_3 {lo hi a b c : Int} (h1 : inB lo hi a = true) (h2 : inB lo hi b = true) (h3 : inB lo hi c = true) : lo ≤ min (min a b) c ∧ max (max a b) c ≤ hi := by
  have := inB_t h1
  have := inB_t h2
  have := inB_t h3
  omega
theorem out_3 {lo hi a b c : Int} (h : ¬ (lo ≤ a ∧ a ≤ hi) ∨ ¬ (lo ≤ b ∧ b ≤ hi) ∨ ¬ (lo ≤ c ∧ c ≤ hi)) : ¬ (lo ≤ min (min a b) c ∧ max (max a b) c ≤ hi) := by omega
set_option maxHeartbeats 3200000 in
theorem sSp_any {s : ByteArray} {kd lo hi a b c : Int} {v : Value} {n : Nat} {f : Nat → Int} {x : Nat} {w : World} (h : RdRow w v n f) (hn : n ≤ 1000000000000) (hx : x < 18446744073709551616) :
    RV 20 #[.agg #[.string s, .int .i64 kd, .int .i64 lo, .int .i64 hi, v, .float .f64 x], .int .i64 a, .int .i64 b, .int .i64 c] w (cfault (gfault s kd lo hi n f x) lo hi (min (min a b) c) (max (max a b) c)) (ixOut (cfault (gfault s kd lo hi n f x) lo hi (min (min a b) c) (max (max a b) c)) (opC .quo (opC .sub (ixC kd f b x) (cl 4607182418800017408)) (opC .sub (ixC kd f a x) (ixC kd f c x)))) := by
  have hst := st64
  have hadd := add_run
  have hsub := sub_run
  have hquo := quo_run
  have hc1 := cell_opW
  have hc2 := frozen_opW
  obtain ⟨ao, cap, rfl⟩ := h.shape
  have H : Hid (RdRow w (.slice ao n cap) n f) := h
  clear h
  unfold RV
  go_enter Tryd.func20, Tryd.ntmps20
  obtain ⟨X, hX⟩ : ∃ X, X = w.alloc (.cells #[.string s, .int .i64 kd, .int .i64 lo, .int .i64 hi, .slice ao n cap, .float .f64 x] 28) := ⟨_, rfl⟩
  have hXs : X.heap.size = w.heap.size + 1 := by rw [hX]; simp
  have HX : Hid (Below w.heap.size w X ∧ Six X w.heap.size (.string s) (.int .i64 kd) (.int .i64 lo) (.int .i64 hi) (.slice ao n cap) (.float .f64 x)) := by
    rw [hX]; exact ⟨(Below.refl _ _).alloc (Nat.le_refl _) _, six_new _ _ _ _ _ _ _ _⟩
  obtain ⟨Y, hY⟩ : ∃ Y, Y = X.alloc (.cells #[.int .i64 0, .float .f64 0] 33) := ⟨_, rfl⟩
  have OY : Own (w.heap.size + 1) X (w.heap.size + 1) 2 33 Y := by
    have h1 := own_made (t := 33) #[.int .i64 0, .float .f64 0] (B := w.heap.size + 1) (X := X) (by omega)
    rw [hXs] at h1
    rw [hY]; exact h1
  have HY : Hid (Own (w.heap.size + 1) X (w.heap.size + 1) 2 33 Y ∧ Below w.heap.size w Y) := ⟨OY, OY.out HX.out.1 (by omega)⟩
  have z0 : ∀ W, Own (w.heap.size + 1) X (w.heap.size + 1) 2 33 W → W.cell? ⟨w.heap.size, 0, none⟩ = some (.string s) := fun W h => (HX.out.2.below h.below (by omega)).c0
  have z1 : ∀ W, Own (w.heap.size + 1) X (w.heap.size + 1) 2 33 W → W.cell? ⟨w.heap.size, 1, none⟩ = some (.int .i64 kd) := fun W h => (HX.out.2.below h.below (by omega)).c1
  have z2 : ∀ W, Own (w.heap.size + 1) X (w.heap.size + 1) 2 33 W → W.cell? ⟨w.heap.size, 2, none⟩ = some (.int .i64 lo) := fun W h => (HX.out.2.below h.below (by omega)).c2
  have z3 : ∀ W, Own (w.heap.size + 1) X (w.heap.size + 1) 2 33 W → W.cell? ⟨w.heap.size, 3, none⟩ = some (.int .i64 hi) := fun W h => (HX.out.2.below h.below (by omega)).c3
  have z4 : ∀ W, Own (w.heap.size + 1) X (w.heap.size + 1) 2 33 W → W.cell? ⟨w.heap.size, 4, none⟩ = some (.slice ao n cap) := fun W h => (HX.out.2.below h.below (by omega)).c4
  have z5 : ∀ W, Own (w.heap.size + 1) X (w.heap.size + 1) 2 33 W → W.cell? ⟨w.heap.size, 5, none⟩ = some (.float .f64 x) := fun W h => (HX.out.2.below h.below (by omega)).c5
  have HR : Hid (∀ W, Own (w.heap.size + 1) X (w.heap.size + 1) 2 33 W → RdRow W (.slice ao n cap) n f) := fun W h => H.out.later (h.out HX.out.1 (by omega))
  have g0 : ∀ W, Own (w.heap.size + 1) X (w.heap.size + 1) 2 33 W → W.cell? ⟨w.heap.size + 1, 0, none⟩ = some (got W (w.heap.size + 1) 0) := fun W h => h.cell (by omega)
  have g1 : ∀ W, Own (w.heap.size + 1) X (w.heap.size + 1) 2 33 W → W.cell? ⟨w.heap.size + 1, 1, none⟩ = some (got W (w.heap.size + 1) 1) := fun W h => h.cell (by omega)
  have gf : ∀ W j, Own (w.heap.size + 1) X (w.heap.size + 1) 2 33 W → W.frozen? ⟨w.heap.size + 1, j, none⟩ = false := fun W j h => h.frozen j
  clear OY H
  go_wp2_with fail
  rw [← hX, ← hY]
  clear hX hY hXs
  refine (sGF_any (HR.out _ HY.out.1) hn).mono ?_
  rintro e w1 ⟨rfl, b1⟩
  have O1 := HY.out.1.call b1
  clear b1
  generalize hcode : gfault s kd lo hi n f x = code
  by_cases hz : code = 0
  · subst hz
    have HG : Hid (gfault s kd lo hi n f x = 0) := hcode
    clear hcode
    go_wp2_with fail
    refine (sIn_any s kd lo hi a _ x _).mono ?_
    rintro e w2 ⟨rfl, b2⟩
    have O2 := O1.call b2
    clear b2 O1
    cases hin : inB lo hi a
    · have HE : Hid (cfault (gfault s kd lo hi n f x) lo hi (min (min a b) c) (max (max a b) c) = 3) := (show cfault (gfault s kd lo hi n f x) lo hi (min (min a b) c) (max (max a b) c) = 3 by rw [HG.out]; exact cf_out (out_3 (Or.inl (inB_f hin))))
      clear hin
      have e0 := g0 _ O2
      have e1 := g1 _ O2
      go_wp2
      refine bodyPost_ret (v := .agg #[.int .i64 3, .float .f64 0]) (by simp [results, Tryd.results20, go_sem, e0, e1]) rfl ⟨_, (by rw [HE.out]), ixOut_no (by rw [HE.out]; decide), ((Own.set (Own.set O2 0 _) 1 _).out HX.out.1 (by omega))⟩
    · have HA : Hid (inB lo hi a = true) := hin
      clear hin
      go_wp2_with fail
      refine (sIn_any s kd lo hi b _ x _).mono ?_
      rintro e w3 ⟨rfl, b3⟩
      have O3 := O2.call b3
      clear b3 O2
      cases hin : inB lo hi b
      · have HE : Hid (cfault (gfault s kd lo hi n f x) lo hi (min (min a b) c) (max (max a b) c) = 3) := (show cfault (gfault s kd lo hi n f x) lo hi (min (min a b) c) (max (max a b) c) = 3 by rw [HG.out]; exact cf_out (out_3 (Or.inr (Or.inl (inB_f hin)))))
        clear hin
        have e0 := g0 _ O3
        have e1 := g1 _ O3
        go_wp2
        refine bodyPost_ret (v := .agg #[.int .i64 3, .float .f64 0]) (by simp [results, Tryd.results20, go_sem, e0, e1]) rfl ⟨_, (by rw [HE.out]), ixOut_no (by rw [HE.out]; decide), ((Own.set (Own.set O3 0 _) 1 _).out HX.out.1 (by omega))⟩
      · have HB : Hid (inB lo hi b = true) := hin
        clear hin
        go_wp2_with fail
        refine (sIn_any s kd lo hi c _ x _).mono ?_
        rintro e w5 ⟨rfl, b5⟩
        have O5 := O3.call b5
        clear b5 O3
        cases hin : inB lo hi c
        · have HE : Hid (cfault (gfault s kd lo hi n f x) lo hi (min (min a b) c) (max (max a b) c) = 3) := (show cfault (gfault s kd lo hi n f x) lo hi (min (min a b) c) (max (max a b) c) = 3 by rw [HG.out]; exact cf_out (out_3 (Or.inr (Or.inr (inB_f hin)))))
          clear hin
          have e0 := g0 _ O5
          have e1 := g1 _ O5
          go_wp2
          refine bodyPost_ret (v := .agg #[.int .i64 3, .float .f64 0]) (by simp [results, Tryd.results20, go_sem, e0, e1]) rfl ⟨_, (by rw [HE.out]), ixOut_no (by rw [HE.out]; decide), ((Own.set (Own.set O5 0 _) 1 _).out HX.out.1 (by omega))⟩
        · have HE : Hid (cfault (gfault s kd lo hi n f x) lo hi (min (min a b) c) (max (max a b) c) = 0) := (show cfault (gfault s kd lo hi n f x) lo hi (min (min a b) c) (max (max a b) c) = 0 by rw [HG.out]; exact cf_in (inB_3 HA.out HB.out hin).1 (inB_3 HA.out HB.out hin).2)
          clear hin
          have HM : Hid (many kd = (n : Int)) := (gfault_zero HG.out).2.1
          have hk := fc_own (x := 4607182418800017408) (by omega)
          go_wp2_with fail
          go_region_held (fun W => Own (w.heap.size + 1) X (w.heap.size + 1) 2 33 W) (first | with_reducible assumption | with_reducible exact Own.drew ‹_› | with_reducible exact Own.opW ‹_› _ _ _ | with_reducible exact Own.set (Own.set ‹_› _ _) _ _)
            (first | (go_at_call 51; refine (sIx_any (HR.out _ (by with_reducible (first | assumption | exact Own.drew ‹_› | exact Own.opW ‹_› _ _ _))) HM.out hx).mono ?_; rintro e w4 ⟨y, rfl, hy, hb⟩; have hO : Own (w.heap.size + 1) X (w.heap.size + 1) 2 33 w4 := Own.call (by with_reducible (first | assumption | exact Own.drew ‹_› | exact Own.opW ‹_› _ _ _)) hb; clear hb))
          all_goals
            have e0 := g0 _ hO
            have e1 := g1 _ hO
            go_wp2
            refine bodyPost_ret (v := .agg #[.int .i64 0, .float .f64 _]) (by simp [results, Tryd.results20, go_sem, e0, e1, hc1]; exact rfl) rfl ⟨_, (by rw [HE.out]), ixOut_yes HE.out (by skip; repeat' (first | with_reducible assumption | (refine fc_op _ ?_ ?_ _))), Own.out (by with_reducible assumption) HX.out.1 (by omega)⟩
  · have HE : Hid (cfault (gfault s kd lo hi n f x) lo hi (min (min a b) c) (max (max a b) c) = code) := (show cfault (gfault s kd lo hi n f x) lo hi (min (min a b) c) (max (max a b) c) = code by rw [hcode]; exact cf_g hz)
    clear hcode
    have e0 := g0 _ O1
    have e1 := g1 _ O1
    go_wp2
    refine bodyPost_ret (v := .agg #[.int .i64 code, .float .f64 0]) (by simp [results, Tryd.results20, go_sem, e0, e1]) rfl ⟨_, (by rw [HE.out]), ixOut_no (by rw [HE.out]; exact hz), ((Own.set (Own.set O1 0 _) 1 _).out HX.out.1 (by omega))⟩
set_option maxHeartbeats 3200000 in
theorem iSp_any {s : ByteArray} {kd lo hi a b c : Int} {v : Value} {n : Nat} {f : Nat → Int} {x : Nat} {w : World} (h : RdRow w v n f) (T : Tab w) (hn : n ≤ 1000000000000) (hx : x < 18446744073709551616) :
    RV 21 #[.agg #[.string s, .int .i64 kd, .int .i64 lo, .int .i64 hi, v, .float .f64 x], .int .i64 a, .int .i64 b, .int .i64 c] w (cfault (gfault s kd lo hi n f x) lo hi (min (min a b) c) (max (max a b) c)) (ixOut (cfault (gfault s kd lo hi n f x) lo hi (min (min a b) c) (max (max a b) c)) (opC .quo (opC .sub (ixC kd f b x) (cl 4607182418800017408)) (opC .sub (ixC kd f a x) (ixC kd f c x)))) := by
  have hst := st64
  have hadd := add_run
  have hsub := sub_run
  have hquo := quo_run
  have hc1 := cell_opW
  have hc2 := frozen_opW
  obtain ⟨ao, cap, rfl⟩ := h.shape
  have H : Hid (RdRow w (.slice ao n cap) n f ∧ Tab w) := ⟨h, T⟩
  clear h T
  unfold RV
  go_enter Tryd.func21, Tryd.ntmps21
  obtain ⟨X, hX⟩ : ∃ X, X = w.alloc (.cells #[.string s, .int .i64 kd, .int .i64 lo, .int .i64 hi, .slice ao n cap, .float .f64 x] 28) := ⟨_, rfl⟩
  have hXs : X.heap.size = w.heap.size + 1 := by rw [hX]; simp
  have HX : Hid (Below w.heap.size w X ∧ Six X w.heap.size (.string s) (.int .i64 kd) (.int .i64 lo) (.int .i64 hi) (.slice ao n cap) (.float .f64 x)) := by
    rw [hX]; exact ⟨(Below.refl _ _).alloc (Nat.le_refl _) _, six_new _ _ _ _ _ _ _ _⟩
  obtain ⟨Y, hY⟩ : ∃ Y, Y = X.alloc (.cells #[.int .i64 0, .float .f64 0] 33) := ⟨_, rfl⟩
  have OY : Own (w.heap.size + 1) X (w.heap.size + 1) 2 33 Y := by
    have h1 := own_made (t := 33) #[.int .i64 0, .float .f64 0] (B := w.heap.size + 1) (X := X) (by omega)
    rw [hXs] at h1
    rw [hY]; exact h1
  have HY : Hid (Own (w.heap.size + 1) X (w.heap.size + 1) 2 33 Y ∧ Below w.heap.size w Y) := ⟨OY, OY.out HX.out.1 (by omega)⟩
  have z0 : ∀ W, Own (w.heap.size + 1) X (w.heap.size + 1) 2 33 W → W.cell? ⟨w.heap.size, 0, none⟩ = some (.string s) := fun W h => (HX.out.2.below h.below (by omega)).c0
  have z1 : ∀ W, Own (w.heap.size + 1) X (w.heap.size + 1) 2 33 W → W.cell? ⟨w.heap.size, 1, none⟩ = some (.int .i64 kd) := fun W h => (HX.out.2.below h.below (by omega)).c1
  have z2 : ∀ W, Own (w.heap.size + 1) X (w.heap.size + 1) 2 33 W → W.cell? ⟨w.heap.size, 2, none⟩ = some (.int .i64 lo) := fun W h => (HX.out.2.below h.below (by omega)).c2
  have z3 : ∀ W, Own (w.heap.size + 1) X (w.heap.size + 1) 2 33 W → W.cell? ⟨w.heap.size, 3, none⟩ = some (.int .i64 hi) := fun W h => (HX.out.2.below h.below (by omega)).c3
  have z4 : ∀ W, Own (w.heap.size + 1) X (w.heap.size + 1) 2 33 W → W.cell? ⟨w.heap.size, 4, none⟩ = some (.slice ao n cap) := fun W h => (HX.out.2.below h.below (by omega)).c4
  have z5 : ∀ W, Own (w.heap.size + 1) X (w.heap.size + 1) 2 33 W → W.cell? ⟨w.heap.size, 5, none⟩ = some (.float .f64 x) := fun W h => (HX.out.2.below h.below (by omega)).c5
  have HR : Hid (∀ W, Own (w.heap.size + 1) X (w.heap.size + 1) 2 33 W → RdRow W (.slice ao n cap) n f) := fun W h => H.out.1.later (h.out HX.out.1 (by omega))
  have HT : Hid (∀ W, Own (w.heap.size + 1) X (w.heap.size + 1) 2 33 W → Tab W) := fun W h => H.out.2.later (h.out HX.out.1 (by omega))
  have g0 : ∀ W, Own (w.heap.size + 1) X (w.heap.size + 1) 2 33 W → W.cell? ⟨w.heap.size + 1, 0, none⟩ = some (got W (w.heap.size + 1) 0) := fun W h => h.cell (by omega)
  have g1 : ∀ W, Own (w.heap.size + 1) X (w.heap.size + 1) 2 33 W → W.cell? ⟨w.heap.size + 1, 1, none⟩ = some (got W (w.heap.size + 1) 1) := fun W h => h.cell (by omega)
  have gf : ∀ W j, Own (w.heap.size + 1) X (w.heap.size + 1) 2 33 W → W.frozen? ⟨w.heap.size + 1, j, none⟩ = false := fun W j h => h.frozen j
  clear OY H
  go_upto_region 1 with fail
  rw [← hX, ← hY]
  clear hX hY hXs
  go_cut [9] (fun cc wx => ∃ code : Int, cc = .int .i64 code ∧ Hid (cfault (gfault s kd lo hi n f x) lo hi (min (min a b) c) (max (max a b) c) = code) ∧ Own (w.heap.size + 1) X (w.heap.size + 1) 2 33 wx)
  case first =>
    have O0 := HY.out.1
    go_wp2_with fail
    all_goals
      refine (iCF_any (HR.out _ HY.out.1) (HT.out _ HY.out.1)).mono ?_
      rintro e w1 ⟨rfl, b1⟩
      have O1 := HY.out.1.call b1
      clear b1
      go_wp2_with fail
      go_meet
      case rel => exact ⟨_, rfl, (show cfault (gfault s kd lo hi n f x) lo hi (min (min a b) c) (max (max a b) c) = _ by congr 1 <;> omega), O1⟩
  case rest =>
    obtain ⟨code, rfl, HE, O1⟩ := hcut
    by_cases hz : code = 0
    · subst hz
      have HM : Hid (many kd = (n : Int)) := (gfault_zero (cf_zero HE.out)).2.1
      have hk := fc_own (x := 4607182418800017408) (by omega)
      go_wp2_with fail
      go_region_held (fun W => Own (w.heap.size + 1) X (w.heap.size + 1) 2 33 W) (first | with_reducible assumption | with_reducible exact Own.drew ‹_› | with_reducible exact Own.opW ‹_› _ _ _ | with_reducible exact Own.set (Own.set ‹_› _ _) _ _)
        (first | (go_at_call 53; refine (iIx_any (HR.out _ (by with_reducible (first | assumption | exact Own.drew ‹_› | exact Own.opW ‹_› _ _ _))) HM.out hx).mono ?_; rintro e w4 ⟨y, rfl, hy, hb⟩; have hO : Own (w.heap.size + 1) X (w.heap.size + 1) 2 33 w4 := Own.call (by with_reducible (first | assumption | exact Own.drew ‹_› | exact Own.opW ‹_› _ _ _)) hb; clear hb))
      all_goals
        have e0 := g0 _ hO
        have e1 := g1 _ hO
        go_wp2
        refine bodyPost_ret (v := .agg #[.int .i64 0, .float .f64 _]) (by simp [results, Tryd.results21, go_sem, e0, e1, hc1]; exact rfl) rfl ⟨_, (by rw [HE.out]), ixOut_yes HE.out (by skip; repeat' (first | with_reducible assumption | (refine fc_op _ ?_ ?_ _))), Own.out (by with_reducible assumption) HX.out.1 (by omega)⟩
    · have e0 := g0 _ O1
      have e1 := g1 _ O1
      go_wp2
      refine bodyPost_ret (v := .agg #[.int .i64 code, .float .f64 0]) (by simp [results, Tryd.results21, go_sem, e0, e1]) rfl ⟨_, (by rw [HE.out]), ixOut_no (by rw [HE.out]; exact hz), ((Own.set (Own.set O1 0 _) 1 _).out HX.out.1 (by omega))⟩
end Go.Proofs.YtndfncjoknibaaaDoor
