/- MeltOf by the program: its contract. -/
import Derived.Test.YtndfncjoknibaaaDoorMs
namespace Go.Proofs.YtndfncjoknibaaaDoor
open Go.RowKit Fl
set_option linter.unusedVariables false
set_option maxHeartbeats 3200000 in
theorem iMe_any {s : ByteArray} {kd lo hi nm : Int} {v : Value} {n : Nat} {f : Nat → Int} {x yy : Nat} {w : World} (h : RdRow w v n f) (T : Tab w) (hn : n ≤ 1000000000000) (hx : x < 18446744073709551616) (hyy : yy < 18446744073709551616) :
    Calls Tryd.prog 23 #[.agg #[.string s, .int .i64 kd, .int .i64 lo, .int .i64 hi, v, .float .f64 x], .int .i64 nm, .float .f64 yy] w fun e w' => Melt w.heap.size w' e (meltCode (cfault (gfault s kd lo hi n f x) lo hi nm nm) (meltC kd f nm x yy)) s kd lo hi n f (meltC kd f nm x yy) ∧ Below w.heap.size w w' := by
  have hst := st64
  have hadd := add_run
  have hsub := sub_run
  have hc1 := cell_opW
  have hc2 := frozen_opW
  obtain ⟨ao, cap, rfl⟩ := h.shape
  have H : Hid (RdRow w (.slice ao n cap) n f ∧ Tab w) := ⟨h, T⟩
  clear h T
  go_enter Tryd.func23, Tryd.ntmps23
  obtain ⟨X, hX⟩ : ∃ X, X = w.alloc (.cells #[.string s, .int .i64 kd, .int .i64 lo, .int .i64 hi, .slice ao n cap, .float .f64 x] 28) := ⟨_, rfl⟩
  have hXs : X.heap.size = w.heap.size + 1 := by rw [hX]; simp
  have HX : Hid (Below w.heap.size w X ∧ Six X w.heap.size (.string s) (.int .i64 kd) (.int .i64 lo) (.int .i64 hi) (.slice ao n cap) (.float .f64 x) ∧ ∀ j, X.frozen? ⟨w.heap.size, j, none⟩ = false) := by
    have h3 : ∀ j, X.frozen? ⟨w.heap.size, j, none⟩ = false := fun j => by rw [hX]; simp
    exact ⟨by rw [hX]; exact (Below.refl _ _).alloc (Nat.le_refl _) _, by rw [hX]; exact six_new _ _ _ _ _ _ _ _, h3⟩
  obtain ⟨Y, hY⟩ : ∃ Y, Y = X.alloc (.cells #[.int .i64 0, .string ⟨#[]⟩, .int .i64 0, .int .i64 0, .int .i64 0, .slice none 0 0, .float .f64 0] 40) := ⟨_, rfl⟩
  have OY : Own (w.heap.size + 1) X (w.heap.size + 1) 7 40 Y := by
    have h1 := own_made (t := 40) #[.int .i64 0, .string ⟨#[]⟩, .int .i64 0, .int .i64 0, .int .i64 0, .slice none 0 0, .float .f64 0] (B := w.heap.size + 1) (X := X) (by omega)
    rw [hXs] at h1
    rw [hY]; exact h1
  have HY : Hid (Own (w.heap.size + 1) X (w.heap.size + 1) 7 40 Y) := OY
  have z0 : ∀ W, Own (w.heap.size + 1) X (w.heap.size + 1) 7 40 W → W.cell? ⟨w.heap.size, 0, none⟩ = some (.string s) := fun W h => (HX.out.2.1.below h.below (by omega)).c0
  have z1 : ∀ W, Own (w.heap.size + 1) X (w.heap.size + 1) 7 40 W → W.cell? ⟨w.heap.size, 1, none⟩ = some (.int .i64 kd) := fun W h => (HX.out.2.1.below h.below (by omega)).c1
  have z2 : ∀ W, Own (w.heap.size + 1) X (w.heap.size + 1) 7 40 W → W.cell? ⟨w.heap.size, 2, none⟩ = some (.int .i64 lo) := fun W h => (HX.out.2.1.below h.below (by omega)).c2
  have z3 : ∀ W, Own (w.heap.size + 1) X (w.heap.size + 1) 7 40 W → W.cell? ⟨w.heap.size, 3, none⟩ = some (.int .i64 hi) := fun W h => (HX.out.2.1.below h.below (by omega)).c3
  have z4 : ∀ W, Own (w.heap.size + 1) X (w.heap.size + 1) 7 40 W → W.cell? ⟨w.heap.size, 4, none⟩ = some (.slice ao n cap) := fun W h => (HX.out.2.1.below h.below (by omega)).c4
  have z5 : ∀ W, Own (w.heap.size + 1) X (w.heap.size + 1) 7 40 W → W.cell? ⟨w.heap.size, 5, none⟩ = some (.float .f64 x) := fun W h => (HX.out.2.1.below h.below (by omega)).c5
  have zf : ∀ W j, Own (w.heap.size + 1) X (w.heap.size + 1) 7 40 W → W.frozen? ⟨w.heap.size, j, none⟩ = false := fun W j h => (h.below.frozen (by simp)).trans (HX.out.2.2 j)
  have HR : Hid (∀ W, Own (w.heap.size + 1) X (w.heap.size + 1) 7 40 W → RdRow W (.slice ao n cap) n f) := fun W h => H.out.1.later (h.out HX.out.1 (by omega))
  have HT : Hid (∀ W, Own (w.heap.size + 1) X (w.heap.size + 1) 7 40 W → Tab W) := fun W h => H.out.2.later (h.out HX.out.1 (by omega))
  have g0 : ∀ W, Own (w.heap.size + 1) X (w.heap.size + 1) 7 40 W → W.cell? ⟨w.heap.size + 1, 0, none⟩ = some (got W (w.heap.size + 1) 0) := fun W h => h.cell (by omega)
  have g1 : ∀ W, Own (w.heap.size + 1) X (w.heap.size + 1) 7 40 W → W.cell? ⟨w.heap.size + 1, 1, none⟩ = some (got W (w.heap.size + 1) 1) := fun W h => h.cell (by omega)
  have g2 : ∀ W, Own (w.heap.size + 1) X (w.heap.size + 1) 7 40 W → W.cell? ⟨w.heap.size + 1, 2, none⟩ = some (got W (w.heap.size + 1) 2) := fun W h => h.cell (by omega)
  have g3 : ∀ W, Own (w.heap.size + 1) X (w.heap.size + 1) 7 40 W → W.cell? ⟨w.heap.size + 1, 3, none⟩ = some (got W (w.heap.size + 1) 3) := fun W h => h.cell (by omega)
  have g4 : ∀ W, Own (w.heap.size + 1) X (w.heap.size + 1) 7 40 W → W.cell? ⟨w.heap.size + 1, 4, none⟩ = some (got W (w.heap.size + 1) 4) := fun W h => h.cell (by omega)
  have g5 : ∀ W, Own (w.heap.size + 1) X (w.heap.size + 1) 7 40 W → W.cell? ⟨w.heap.size + 1, 5, none⟩ = some (got W (w.heap.size + 1) 5) := fun W h => h.cell (by omega)
  have g6 : ∀ W, Own (w.heap.size + 1) X (w.heap.size + 1) 7 40 W → W.cell? ⟨w.heap.size + 1, 6, none⟩ = some (got W (w.heap.size + 1) 6) := fun W h => h.cell (by omega)
  have gf : ∀ W j, Own (w.heap.size + 1) X (w.heap.size + 1) 7 40 W → W.frozen? ⟨w.heap.size + 1, j, none⟩ = false := fun W j h => h.frozen j
  clear OY H
  go_wp2_with fail
  rw [← hX, ← hY]
  clear hX hY hXs
  refine (iCF_any (HR.out _ HY.out) (HT.out _ HY.out)).mono ?_
  rintro e w1 ⟨rfl, b1⟩
  have O1 := HY.out.call b1
  clear b1
  generalize hcode : cfault (gfault s kd lo hi n f x) lo hi nm nm = code
  by_cases hz : code = 0
  · subst hz
    have HC0 : Hid (cfault (gfault s kd lo hi n f x) lo hi nm nm = 0) := hcode
    clear hcode
    have HM : Hid (many kd = (n : Int)) := (gfault_zero (cf_zero HC0.out)).2.1
    go_wp2_with fail
    go_region_held (fun W => Own (w.heap.size + 1) X (w.heap.size + 1) 7 40 W) (first | with_reducible assumption | with_reducible exact Own.drew ‹_› | with_reducible exact Own.opW ‹_› _ _ _)
      (first | (go_at_call 53; refine (iIx_any (HR.out _ (by with_reducible (first | assumption | exact Own.drew ‹_› | exact Own.opW ‹_› _ _ _))) HM.out hx).mono ?_; rintro e w4 ⟨y4, rfl, hy4, hb⟩; have hO : Own (w.heap.size + 1) X (w.heap.size + 1) 7 40 w4 := Own.call (by with_reducible (first | assumption | exact Own.drew ‹_› | exact Own.opW ‹_› _ _ _)) hb; clear hb))
    obtain ⟨y, hy⟩ : ∃ y, y = opV .add x (opV .sub yy y4 w4) (opW .sub yy y4 w4) := ⟨_, rfl⟩
    have hyc : Fc y (meltC kd f nm x yy) := by rw [hy]; exact fc_op _ (fc_own hx) (fc_op _ (fc_own hyy) hy4 _) _
    obtain ⟨Z, hZ⟩ : ∃ Z, Z = opW .add x (opV .sub yy y4 w4) (opW .sub yy y4 w4) := ⟨_, rfl⟩
    have OZ : Own (w.heap.size + 1) X (w.heap.size + 1) 7 40 Z := by rw [hZ]; exact (hO.opW _ _ _).opW _ _ _
    rw [← hy, ← hZ]
    clear hy hZ hO hy4
    have HSH : Hid (∀ w, Calls Tryd.prog 47 #[.float .f64 y] w fun e w' => e = .returned (.bool (shB y)) ∧ w = w') := iShift y
    have HYC : Hid (Fc y (meltC kd f nm x yy) ∧ shB y = shO (meltC kd f nm x yy)) := ⟨hyc, shB_cl hyc⟩
    clear hyc
    cases hsh : shB y
    · rw [hsh] at HSH
      have HE : Hid (meltCode (cfault (gfault s kd lo hi n f x) lo hi nm nm) (meltC kd f nm x yy) = 3) := (show meltCode (cfault (gfault s kd lo hi n f x) lo hi nm nm) (meltC kd f nm x yy) = 3 by rw [HC0.out]; exact mc_out (by rw [← HYC.out.2]; exact hsh))
      clear hsh
      go_wp2_with (go_at_call 47; refine (HSH.out _).mono ?_; rintro e w' ⟨rfl, rfl⟩)
      have e0 := g0 _ OZ
      have e1 := g1 _ OZ
      have e2 := g2 _ OZ
      have e3 := g3 _ OZ
      have e4 := g4 _ OZ
      have e5 := g5 _ OZ
      have e6 := g6 _ OZ
      refine bodyPost_ret (v := .agg #[.int .i64 3, .string ⟨#[]⟩, .int .i64 0, .int .i64 0, .int .i64 0, .slice none 0 0, .float .f64 0]) (by simp [results, Tryd.results23, go_sem, e0, e1, e2, e3, e4, e5, e6]) rfl ⟨by rw [HE.out]; exact melt_no (by decide) _ _ _ _ _ _ _, Own.out (Own.set (Own.set (Own.set (Own.set (Own.set (Own.set (Own.set OZ 0 _) 1 _) 2 _) 3 _) 4 _) 5 _) 6 _) HX.out.1 (by omega)⟩
    · rw [hsh] at HSH
      have HE : Hid (meltCode (cfault (gfault s kd lo hi n f x) lo hi nm nm) (meltC kd f nm x yy) = 0) := (show meltCode (cfault (gfault s kd lo hi n f x) lo hi nm nm) (meltC kd f nm x yy) = 0 by rw [HC0.out]; exact mc_in (by rw [← HYC.out.2]; exact hsh))
      clear hsh
      have hpos : 0 < n := by rcases many_cases HM.out with h | h <;> omega
      have hsm : n ≤ 1000000000 := by rcases many_cases HM.out with h | h <;> omega
      obtain ⟨b, off, cap', he, hc⟩ := rd_some (HR.out _ OZ) hpos
      obtain ⟨rfl, rfl⟩ : ao = some ⟨b, off, none⟩ ∧ cap = cap' := by simpa using he
      have HC : Hid (∀ i, i < n → Z.cell? ⟨b, off + i, none⟩ = some (.int .i64 (f i))) := hc
      clear he hc
      have hr := OZ.lt
      go_wp2_with (first | (go_at_call 47; refine (HSH.out _).mono ?_; rintro e w' ⟨rfl, rfl⟩) | (go_at_call 54; refine (clone_any hsm hpos HC.out).mono ?_; rintro e w5 ⟨g, cp, rfl, hg, sg, bl⟩; have O5 := OZ.call bl; have o0 := z0 _ O5; have o1 := z1 _ O5; have o2 := z2 _ O5; have o3 := z3 _ O5; have o4 := z4 _ O5; have o5 := z5 _ O5; have of4 := zf _ 4 O5; have of5 := zf _ 5 O5; have HS : Hid (Seg w5 g 2 0 n (fun i => .int .i64 (f i)) ∧ Z.heap.size ≤ g) := ⟨sg, hg⟩; have hg2 : w.heap.size + 2 ≤ g := (by omega); clear sg bl hg; have e0 := g0 _ O5; have e1 := g1 _ O5; have e2 := g2 _ O5; have e3 := g3 _ O5; have e4 := g4 _ O5; have e5 := g5 _ O5; have e6 := g6 _ O5; have ef := (fun j => gf _ j O5)))
      refine bodyPost_ret (v := .agg #[.int .i64 0, .string s, .int .i64 kd, .int .i64 lo, .int .i64 hi, .slice (some ⟨g, 0, none⟩) n cp, .float .f64 y]) (by simp [results, Tryd.results23, go_sem, e0, e1, e2, e3, e4, e5, e6]) rfl ⟨?_, ?_⟩
      · rw [HE.out]
        refine melt_yes (by omega) ?_ HYC.out.1
        repeat (first | with_reducible exact HS.out.1 | (refine Seg.setOther ?_ (by show g ≠ _; simp <;> omega) _))
      · have hB := O5.out HX.out.1 (by omega)
        repeat (first | with_reducible exact hB | (refine Below.setCell ?_ (by simp <;> omega) _))
  · have HE : Hid (meltCode (cfault (gfault s kd lo hi n f x) lo hi nm nm) (meltC kd f nm x yy) = code) := (show meltCode (cfault (gfault s kd lo hi n f x) lo hi nm nm) (meltC kd f nm x yy) = code by rw [hcode]; exact mc_no hz)
    clear hcode
    have e0 := g0 _ O1
    have e1 := g1 _ O1
    have e2 := g2 _ O1
    have e3 := g3 _ O1
    have e4 := g4 _ O1
    have e5 := g5 _ O1
    have e6 := g6 _ O1
    go_wp2
    refine bodyPost_ret (v := .agg #[.int .i64 code, .string ⟨#[]⟩, .int .i64 0, .int .i64 0, .int .i64 0, .slice none 0 0, .float .f64 0]) (by simp [results, Tryd.results23, go_sem, e0, e1, e2, e3, e4, e5, e6]) rfl ⟨by rw [HE.out]; exact melt_no hz _ _ _ _ _ _ _, Own.out (Own.set (Own.set (Own.set (Own.set (Own.set (Own.set (Own.set O1 0 _) 1 _) 2 _) 3 _) 4 _) 5 _) 6 _) HX.out.1 (by omega)⟩
end Go.Proofs.YtndfncjoknibaaaDoor
