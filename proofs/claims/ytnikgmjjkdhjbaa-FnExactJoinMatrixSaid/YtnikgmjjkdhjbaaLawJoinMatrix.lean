/- At every two systems that come in, right or not, the program's JoinMatrix answers as the specification, field by field; nothing that was there is changed. -/
import Derived.Test.YtnikgmjjkdhjbaaOz
import Derived.Test.YtnikgmjjkdhjbaaIm
import Derived.Test.YtnikgmjjkdhjbaaRows
import Derived.Deep.RegionHeld3
import Derived.Deep.DeepCutAuto
namespace Go.Proofs.Ytnikgmjjkdhjbaa.LawJoinMatrix
open Go.ChangeShapes Go.WideShapes Go.ChangeAt Go.RowKit Go.Joins
set_option linter.unusedVariables false
set_option linter.unusedSimpArgs false
set_option maxRecDepth 20000 in
set_option maxHeartbeats 3200000 in
theorem walk (a b : Mx) (w : World) : Calls Try.prog 6 #[.agg #[.int .i64 a.A.n, .int .i64 a.A.d, .int .i64 a.B.n, .int .i64 a.B.d, .int .i64 a.C.n, .int .i64 a.C.d, .int .i64 a.D.n, .int .i64 a.D.d], .agg #[.int .i64 b.A.n, .int .i64 b.A.d, .int .i64 b.B.n, .int .i64 b.B.d, .int .i64 b.C.n, .int .i64 b.C.d, .int .i64 b.D.n, .int .i64 b.D.d]] w fun e w' => e = .returned (.bool true) ∧ Below w.heap.size w w' := by
  go_enter Try.func6, Try.ntmps6
  go_wp2_with fail
  obtain ⟨w1, hX⟩ : ∃ X, X = ((w.alloc (.cells #[.int .i64 a.A.n, .int .i64 a.A.d, .int .i64 a.B.n, .int .i64 a.B.d, .int .i64 a.C.n, .int .i64 a.C.d, .int .i64 a.D.n, .int .i64 a.D.d] 53)).alloc (.cells #[.int .i64 b.A.n, .int .i64 b.A.d, .int .i64 b.B.n, .int .i64 b.B.d, .int .i64 b.C.n, .int .i64 b.C.d, .int .i64 b.D.n, .int .i64 b.D.d] 53)) := ⟨_, rfl⟩
  rw [← hX]
  have HO : Hid (Below w.heap.size w w1) := by show Below w.heap.size w w1; rw [hX]; go_grown
  have K0 : Hid (w1.cell? ⟨w.heap.size, 0, none⟩ = some (.int .i64 a.A.n)) := by show w1.cell? ⟨w.heap.size, 0, none⟩ = some (.int .i64 a.A.n); rw [hX]; exact cell_old (cell_new (by simp) rfl)
  have K1 : Hid (w1.cell? ⟨w.heap.size, 1, none⟩ = some (.int .i64 a.A.d)) := by show w1.cell? ⟨w.heap.size, 1, none⟩ = some (.int .i64 a.A.d); rw [hX]; exact cell_old (cell_new (by simp) rfl)
  have K2 : Hid (w1.cell? ⟨w.heap.size, 2, none⟩ = some (.int .i64 a.B.n)) := by show w1.cell? ⟨w.heap.size, 2, none⟩ = some (.int .i64 a.B.n); rw [hX]; exact cell_old (cell_new (by simp) rfl)
  have K3 : Hid (w1.cell? ⟨w.heap.size, 3, none⟩ = some (.int .i64 a.B.d)) := by show w1.cell? ⟨w.heap.size, 3, none⟩ = some (.int .i64 a.B.d); rw [hX]; exact cell_old (cell_new (by simp) rfl)
  have K4 : Hid (w1.cell? ⟨w.heap.size, 4, none⟩ = some (.int .i64 a.C.n)) := by show w1.cell? ⟨w.heap.size, 4, none⟩ = some (.int .i64 a.C.n); rw [hX]; exact cell_old (cell_new (by simp) rfl)
  have K5 : Hid (w1.cell? ⟨w.heap.size, 5, none⟩ = some (.int .i64 a.C.d)) := by show w1.cell? ⟨w.heap.size, 5, none⟩ = some (.int .i64 a.C.d); rw [hX]; exact cell_old (cell_new (by simp) rfl)
  have K6 : Hid (w1.cell? ⟨w.heap.size, 6, none⟩ = some (.int .i64 a.D.n)) := by show w1.cell? ⟨w.heap.size, 6, none⟩ = some (.int .i64 a.D.n); rw [hX]; exact cell_old (cell_new (by simp) rfl)
  have K7 : Hid (w1.cell? ⟨w.heap.size, 7, none⟩ = some (.int .i64 a.D.d)) := by show w1.cell? ⟨w.heap.size, 7, none⟩ = some (.int .i64 a.D.d); rw [hX]; exact cell_old (cell_new (by simp) rfl)
  have K8 : Hid (w1.cell? ⟨w.heap.size + 1, 0, none⟩ = some (.int .i64 b.A.n)) := by show w1.cell? ⟨w.heap.size + 1, 0, none⟩ = some (.int .i64 b.A.n); rw [hX]; exact cell_new (by simp) rfl
  have K9 : Hid (w1.cell? ⟨w.heap.size + 1, 1, none⟩ = some (.int .i64 b.A.d)) := by show w1.cell? ⟨w.heap.size + 1, 1, none⟩ = some (.int .i64 b.A.d); rw [hX]; exact cell_new (by simp) rfl
  have K10 : Hid (w1.cell? ⟨w.heap.size + 1, 2, none⟩ = some (.int .i64 b.B.n)) := by show w1.cell? ⟨w.heap.size + 1, 2, none⟩ = some (.int .i64 b.B.n); rw [hX]; exact cell_new (by simp) rfl
  have K11 : Hid (w1.cell? ⟨w.heap.size + 1, 3, none⟩ = some (.int .i64 b.B.d)) := by show w1.cell? ⟨w.heap.size + 1, 3, none⟩ = some (.int .i64 b.B.d); rw [hX]; exact cell_new (by simp) rfl
  have K12 : Hid (w1.cell? ⟨w.heap.size + 1, 4, none⟩ = some (.int .i64 b.C.n)) := by show w1.cell? ⟨w.heap.size + 1, 4, none⟩ = some (.int .i64 b.C.n); rw [hX]; exact cell_new (by simp) rfl
  have K13 : Hid (w1.cell? ⟨w.heap.size + 1, 5, none⟩ = some (.int .i64 b.C.d)) := by show w1.cell? ⟨w.heap.size + 1, 5, none⟩ = some (.int .i64 b.C.d); rw [hX]; exact cell_new (by simp) rfl
  have K14 : Hid (w1.cell? ⟨w.heap.size + 1, 6, none⟩ = some (.int .i64 b.D.n)) := by show w1.cell? ⟨w.heap.size + 1, 6, none⟩ = some (.int .i64 b.D.n); rw [hX]; exact cell_new (by simp) rfl
  have K15 : Hid (w1.cell? ⟨w.heap.size + 1, 7, none⟩ = some (.int .i64 b.D.d)) := by show w1.cell? ⟨w.heap.size + 1, 7, none⟩ = some (.int .i64 b.D.d); rw [hX]; exact cell_new (by simp) rfl
  clear hX
  have k0 : ∀ W, Below w1.heap.size w1 W → W.cell? ⟨w.heap.size, 0, none⟩ = some (.int .i64 a.A.n) := fun _ h => kold h K0.out
  have k1 : ∀ W, Below w1.heap.size w1 W → W.cell? ⟨w.heap.size, 1, none⟩ = some (.int .i64 a.A.d) := fun _ h => kold h K1.out
  have k2 : ∀ W, Below w1.heap.size w1 W → W.cell? ⟨w.heap.size, 2, none⟩ = some (.int .i64 a.B.n) := fun _ h => kold h K2.out
  have k3 : ∀ W, Below w1.heap.size w1 W → W.cell? ⟨w.heap.size, 3, none⟩ = some (.int .i64 a.B.d) := fun _ h => kold h K3.out
  have k4 : ∀ W, Below w1.heap.size w1 W → W.cell? ⟨w.heap.size, 4, none⟩ = some (.int .i64 a.C.n) := fun _ h => kold h K4.out
  have k5 : ∀ W, Below w1.heap.size w1 W → W.cell? ⟨w.heap.size, 5, none⟩ = some (.int .i64 a.C.d) := fun _ h => kold h K5.out
  have k6 : ∀ W, Below w1.heap.size w1 W → W.cell? ⟨w.heap.size, 6, none⟩ = some (.int .i64 a.D.n) := fun _ h => kold h K6.out
  have k7 : ∀ W, Below w1.heap.size w1 W → W.cell? ⟨w.heap.size, 7, none⟩ = some (.int .i64 a.D.d) := fun _ h => kold h K7.out
  have k8 : ∀ W, Below w1.heap.size w1 W → W.cell? ⟨w.heap.size + 1, 0, none⟩ = some (.int .i64 b.A.n) := fun _ h => kold h K8.out
  have k9 : ∀ W, Below w1.heap.size w1 W → W.cell? ⟨w.heap.size + 1, 1, none⟩ = some (.int .i64 b.A.d) := fun _ h => kold h K9.out
  have k10 : ∀ W, Below w1.heap.size w1 W → W.cell? ⟨w.heap.size + 1, 2, none⟩ = some (.int .i64 b.B.n) := fun _ h => kold h K10.out
  have k11 : ∀ W, Below w1.heap.size w1 W → W.cell? ⟨w.heap.size + 1, 3, none⟩ = some (.int .i64 b.B.d) := fun _ h => kold h K11.out
  have k12 : ∀ W, Below w1.heap.size w1 W → W.cell? ⟨w.heap.size + 1, 4, none⟩ = some (.int .i64 b.C.n) := fun _ h => kold h K12.out
  have k13 : ∀ W, Below w1.heap.size w1 W → W.cell? ⟨w.heap.size + 1, 5, none⟩ = some (.int .i64 b.C.d) := fun _ h => kold h K13.out
  have k14 : ∀ W, Below w1.heap.size w1 W → W.cell? ⟨w.heap.size + 1, 6, none⟩ = some (.int .i64 b.D.n) := fun _ h => kold h K14.out
  have k15 : ∀ W, Below w1.heap.size w1 W → W.cell? ⟨w.heap.size + 1, 7, none⟩ = some (.int .i64 b.D.d) := fun _ h => kold h K15.out
  have hR0 : Below w1.heap.size w1 w1 := Below.refl _ _
  go_wp2_with fail
  go_cut [5] (fun p wx => ∃ k : Nat, p = .pointer (some ⟨k, 0, none⟩) ∧ w1.heap.size ≤ k ∧ k < wx.heap.size ∧ Below w1.heap.size w1 wx ∧ wx.cell? ⟨k, 0, none⟩ = some (.int .i64 (jC a b)) ∧ wx.cell? ⟨k, 1, none⟩ = some (.int .i64 (sel (jC a b) (jQA a b)).n) ∧ wx.cell? ⟨k, 2, none⟩ = some (.int .i64 (sel (jC a b) (jQA a b)).d) ∧ wx.cell? ⟨k, 3, none⟩ = some (.int .i64 (sel (jC a b) (jQB a b)).n) ∧ wx.cell? ⟨k, 4, none⟩ = some (.int .i64 (sel (jC a b) (jQB a b)).d) ∧ wx.cell? ⟨k, 5, none⟩ = some (.int .i64 (sel (jC a b) (jQC a b)).n) ∧ wx.cell? ⟨k, 6, none⟩ = some (.int .i64 (sel (jC a b) (jQC a b)).d) ∧ wx.cell? ⟨k, 7, none⟩ = some (.int .i64 (sel (jC a b) (jQD a b)).n) ∧ wx.cell? ⟨k, 8, none⟩ = some (.int .i64 (sel (jC a b) (jQD a b)).d))
  case first =>
    go_region_held3 (fun W => Below w1.heap.size w1 W) (go_grown) (first | (go_at_call 27; refine (toMat _ _).mono ?_; rintro e wz ⟨rfl, hb1⟩; have hs1 := hb1.size; (try simp at hs1); have hR1 : Below w1.heap.size w1 wz := (by refine box_step ?_ hb1 (by go_size); go_grown); (first | (have hZ := box_step hZ hb1 (Nat.le_refl _)) | (have hZ := hb1)); obtain ⟨ho1, hf1, hz1⟩ := olds' hZ) | (go_at_call 18; refine (sjoin _ _ _).mono ?_; rintro e wz ⟨rfl, hb1⟩; have hs1 := hb1.size; (try simp at hs1); have hR1 : Below w1.heap.size w1 wz := (by refine box_step ?_ hb1 (by go_size); go_grown); (first | (have hZ := box_step hZ hb1 (Nat.le_refl _)) | (have hZ := hb1)); obtain ⟨ho1, hf1, hz1⟩ := olds' hZ))
    all_goals
      go_wp2_with fail
      go_meet
      case rel =>
        refine ⟨_, rfl, ?_, ?_, ?_, ?_, ?_, ?_, ?_, ?_, ?_, ?_, ?_, ?_⟩
        · omega
        · simp [World.setCell] <;> omega
        · go_grown
        · go_simp
        · go_simp
        · go_simp
        · go_simp
        · go_simp
        · go_simp
        · go_simp
        · go_simp
        · go_simp
  case rest =>
    obtain ⟨b2, rfl, hk1, hk2, hB, d0, d1, d2, d3, d4, d5, d6, d7, d8⟩ := hcut
    clear k0 k1 k2 k3 k4 k5 k6 k7 k8 k9 k10 k11 k12 k13 k14 k15 hR0
    obtain ⟨w2, hv⟩ : ∃ v, v = wc := ⟨_, rfl⟩
    subst hv
    have HO : Hid (Below w.heap.size w w2) := box_step HO.out hB (by first | exact Nat.le_refl _ | exact HO.out.size)
    have K16 : Hid (w2.cell? ⟨w.heap.size, 0, none⟩ = some (.int .i64 a.A.n)) := kold hB (K0.out)
    have K17 : Hid (w2.cell? ⟨w.heap.size, 1, none⟩ = some (.int .i64 a.A.d)) := kold hB (K1.out)
    have K18 : Hid (w2.cell? ⟨w.heap.size, 2, none⟩ = some (.int .i64 a.B.n)) := kold hB (K2.out)
    have K19 : Hid (w2.cell? ⟨w.heap.size, 3, none⟩ = some (.int .i64 a.B.d)) := kold hB (K3.out)
    have K20 : Hid (w2.cell? ⟨w.heap.size, 4, none⟩ = some (.int .i64 a.C.n)) := kold hB (K4.out)
    have K21 : Hid (w2.cell? ⟨w.heap.size, 5, none⟩ = some (.int .i64 a.C.d)) := kold hB (K5.out)
    have K22 : Hid (w2.cell? ⟨w.heap.size, 6, none⟩ = some (.int .i64 a.D.n)) := kold hB (K6.out)
    have K23 : Hid (w2.cell? ⟨w.heap.size, 7, none⟩ = some (.int .i64 a.D.d)) := kold hB (K7.out)
    have K24 : Hid (w2.cell? ⟨w.heap.size + 1, 0, none⟩ = some (.int .i64 b.A.n)) := kold hB (K8.out)
    have K25 : Hid (w2.cell? ⟨w.heap.size + 1, 1, none⟩ = some (.int .i64 b.A.d)) := kold hB (K9.out)
    have K26 : Hid (w2.cell? ⟨w.heap.size + 1, 2, none⟩ = some (.int .i64 b.B.n)) := kold hB (K10.out)
    have K27 : Hid (w2.cell? ⟨w.heap.size + 1, 3, none⟩ = some (.int .i64 b.B.d)) := kold hB (K11.out)
    have K28 : Hid (w2.cell? ⟨w.heap.size + 1, 4, none⟩ = some (.int .i64 b.C.n)) := kold hB (K12.out)
    have K29 : Hid (w2.cell? ⟨w.heap.size + 1, 5, none⟩ = some (.int .i64 b.C.d)) := kold hB (K13.out)
    have K30 : Hid (w2.cell? ⟨w.heap.size + 1, 6, none⟩ = some (.int .i64 b.D.n)) := kold hB (K14.out)
    have K31 : Hid (w2.cell? ⟨w.heap.size + 1, 7, none⟩ = some (.int .i64 b.D.d)) := kold hB (K15.out)
    clear K0 K1 K2 K3 K4 K5 K6 K7 K8 K9 K10 K11 K12 K13 K14 K15
    have K32 : Hid (w2.cell? ⟨b2, 0, none⟩ = some (.int .i64 (jC a b))) := d0
    have K33 : Hid (w2.cell? ⟨b2, 1, none⟩ = some (.int .i64 (sel (jC a b) (jQA a b)).n)) := d1
    have K34 : Hid (w2.cell? ⟨b2, 2, none⟩ = some (.int .i64 (sel (jC a b) (jQA a b)).d)) := d2
    have K35 : Hid (w2.cell? ⟨b2, 3, none⟩ = some (.int .i64 (sel (jC a b) (jQB a b)).n)) := d3
    have K36 : Hid (w2.cell? ⟨b2, 4, none⟩ = some (.int .i64 (sel (jC a b) (jQB a b)).d)) := d4
    have K37 : Hid (w2.cell? ⟨b2, 5, none⟩ = some (.int .i64 (sel (jC a b) (jQC a b)).n)) := d5
    have K38 : Hid (w2.cell? ⟨b2, 6, none⟩ = some (.int .i64 (sel (jC a b) (jQC a b)).d)) := d6
    have K39 : Hid (w2.cell? ⟨b2, 7, none⟩ = some (.int .i64 (sel (jC a b) (jQD a b)).n)) := d7
    have K40 : Hid (w2.cell? ⟨b2, 8, none⟩ = some (.int .i64 (sel (jC a b) (jQD a b)).d)) := d8
    clear hB hk1 hk2 d0 d1 d2 d3 d4 d5 d6 d7 d8
    have k0 : ∀ W, Below w2.heap.size w2 W → W.cell? ⟨w.heap.size, 0, none⟩ = some (.int .i64 a.A.n) := fun _ h => kold h K16.out
    have k1 : ∀ W, Below w2.heap.size w2 W → W.cell? ⟨w.heap.size, 1, none⟩ = some (.int .i64 a.A.d) := fun _ h => kold h K17.out
    have k2 : ∀ W, Below w2.heap.size w2 W → W.cell? ⟨w.heap.size, 2, none⟩ = some (.int .i64 a.B.n) := fun _ h => kold h K18.out
    have k3 : ∀ W, Below w2.heap.size w2 W → W.cell? ⟨w.heap.size, 3, none⟩ = some (.int .i64 a.B.d) := fun _ h => kold h K19.out
    have k4 : ∀ W, Below w2.heap.size w2 W → W.cell? ⟨w.heap.size, 4, none⟩ = some (.int .i64 a.C.n) := fun _ h => kold h K20.out
    have k5 : ∀ W, Below w2.heap.size w2 W → W.cell? ⟨w.heap.size, 5, none⟩ = some (.int .i64 a.C.d) := fun _ h => kold h K21.out
    have k6 : ∀ W, Below w2.heap.size w2 W → W.cell? ⟨w.heap.size, 6, none⟩ = some (.int .i64 a.D.n) := fun _ h => kold h K22.out
    have k7 : ∀ W, Below w2.heap.size w2 W → W.cell? ⟨w.heap.size, 7, none⟩ = some (.int .i64 a.D.d) := fun _ h => kold h K23.out
    have k8 : ∀ W, Below w2.heap.size w2 W → W.cell? ⟨w.heap.size + 1, 0, none⟩ = some (.int .i64 b.A.n) := fun _ h => kold h K24.out
    have k9 : ∀ W, Below w2.heap.size w2 W → W.cell? ⟨w.heap.size + 1, 1, none⟩ = some (.int .i64 b.A.d) := fun _ h => kold h K25.out
    have k10 : ∀ W, Below w2.heap.size w2 W → W.cell? ⟨w.heap.size + 1, 2, none⟩ = some (.int .i64 b.B.n) := fun _ h => kold h K26.out
    have k11 : ∀ W, Below w2.heap.size w2 W → W.cell? ⟨w.heap.size + 1, 3, none⟩ = some (.int .i64 b.B.d) := fun _ h => kold h K27.out
    have k12 : ∀ W, Below w2.heap.size w2 W → W.cell? ⟨w.heap.size + 1, 4, none⟩ = some (.int .i64 b.C.n) := fun _ h => kold h K28.out
    have k13 : ∀ W, Below w2.heap.size w2 W → W.cell? ⟨w.heap.size + 1, 5, none⟩ = some (.int .i64 b.C.d) := fun _ h => kold h K29.out
    have k14 : ∀ W, Below w2.heap.size w2 W → W.cell? ⟨w.heap.size + 1, 6, none⟩ = some (.int .i64 b.D.n) := fun _ h => kold h K30.out
    have k15 : ∀ W, Below w2.heap.size w2 W → W.cell? ⟨w.heap.size + 1, 7, none⟩ = some (.int .i64 b.D.d) := fun _ h => kold h K31.out
    have hR0 : Below w2.heap.size w2 w2 := Below.refl _ _
    go_wp2_with fail
    go_cut [6] (fun p wx => ∃ k : Nat, p = .pointer (some ⟨k, 0, none⟩) ∧ w2.heap.size ≤ k ∧ k < wx.heap.size ∧ Below w2.heap.size w2 wx ∧ wx.cell? ⟨k, 0, none⟩ = some (.int .i64 (jC a b)) ∧ wx.cell? ⟨k, 1, none⟩ = some (.int .i64 (sel (jC a b) (jQA a b)).n) ∧ wx.cell? ⟨k, 2, none⟩ = some (.int .i64 (sel (jC a b) (jQA a b)).d) ∧ wx.cell? ⟨k, 3, none⟩ = some (.int .i64 (sel (jC a b) (jQB a b)).n) ∧ wx.cell? ⟨k, 4, none⟩ = some (.int .i64 (sel (jC a b) (jQB a b)).d) ∧ wx.cell? ⟨k, 5, none⟩ = some (.int .i64 (sel (jC a b) (jQC a b)).n) ∧ wx.cell? ⟨k, 6, none⟩ = some (.int .i64 (sel (jC a b) (jQC a b)).d) ∧ wx.cell? ⟨k, 7, none⟩ = some (.int .i64 (sel (jC a b) (jQD a b)).n) ∧ wx.cell? ⟨k, 8, none⟩ = some (.int .i64 (sel (jC a b) (jQD a b)).d))
    case first =>
      go_region_held3 (fun W => Below w2.heap.size w2 W) (go_grown) (first | (go_at_call 27; refine (toMat _ _).mono ?_; rintro e wz ⟨rfl, hb1⟩; have hs1 := hb1.size; (try simp at hs1); have hR1 : Below w2.heap.size w2 wz := (by refine box_step ?_ hb1 (by go_size); go_grown); (first | (have hZ := box_step hZ hb1 (Nat.le_refl _)) | (have hZ := hb1)); obtain ⟨ho1, hf1, hz1⟩ := olds' hZ) | (go_at_call 28; refine (ijoin _ _ _).mono ?_; rintro e wz ⟨rfl, hb1⟩; have hs1 := hb1.size; (try simp at hs1); have hR1 : Below w2.heap.size w2 wz := (by refine box_step ?_ hb1 (by go_size); go_grown); (first | (have hZ := box_step hZ hb1 (Nat.le_refl _)) | (have hZ := hb1)); obtain ⟨ho1, hf1, hz1⟩ := olds' hZ))
      all_goals
        go_wp2_with fail
        go_meet
        case rel =>
          refine ⟨_, rfl, ?_, ?_, ?_, ?_, ?_, ?_, ?_, ?_, ?_, ?_, ?_, ?_⟩
          · omega
          · simp [World.setCell] <;> omega
          · go_grown
          · go_simp
          · go_simp
          · go_simp
          · go_simp
          · go_simp
          · go_simp
          · go_simp
          · go_simp
          · go_simp
    case rest =>
      obtain ⟨b3, rfl, hk1, hk2, hB, d0, d1, d2, d3, d4, d5, d6, d7, d8⟩ := hcut
      clear k0 k1 k2 k3 k4 k5 k6 k7 k8 k9 k10 k11 k12 k13 k14 k15 hR0
      obtain ⟨w3, hv⟩ : ∃ v, v = wc := ⟨_, rfl⟩
      subst hv
      have HO : Hid (Below w.heap.size w w3) := box_step HO.out hB (by first | exact Nat.le_refl _ | exact HO.out.size)
      have K41 : Hid (w3.cell? ⟨w.heap.size, 0, none⟩ = some (.int .i64 a.A.n)) := kold hB (K16.out)
      have K42 : Hid (w3.cell? ⟨w.heap.size, 1, none⟩ = some (.int .i64 a.A.d)) := kold hB (K17.out)
      have K43 : Hid (w3.cell? ⟨w.heap.size, 2, none⟩ = some (.int .i64 a.B.n)) := kold hB (K18.out)
      have K44 : Hid (w3.cell? ⟨w.heap.size, 3, none⟩ = some (.int .i64 a.B.d)) := kold hB (K19.out)
      have K45 : Hid (w3.cell? ⟨w.heap.size, 4, none⟩ = some (.int .i64 a.C.n)) := kold hB (K20.out)
      have K46 : Hid (w3.cell? ⟨w.heap.size, 5, none⟩ = some (.int .i64 a.C.d)) := kold hB (K21.out)
      have K47 : Hid (w3.cell? ⟨w.heap.size, 6, none⟩ = some (.int .i64 a.D.n)) := kold hB (K22.out)
      have K48 : Hid (w3.cell? ⟨w.heap.size, 7, none⟩ = some (.int .i64 a.D.d)) := kold hB (K23.out)
      have K49 : Hid (w3.cell? ⟨w.heap.size + 1, 0, none⟩ = some (.int .i64 b.A.n)) := kold hB (K24.out)
      have K50 : Hid (w3.cell? ⟨w.heap.size + 1, 1, none⟩ = some (.int .i64 b.A.d)) := kold hB (K25.out)
      have K51 : Hid (w3.cell? ⟨w.heap.size + 1, 2, none⟩ = some (.int .i64 b.B.n)) := kold hB (K26.out)
      have K52 : Hid (w3.cell? ⟨w.heap.size + 1, 3, none⟩ = some (.int .i64 b.B.d)) := kold hB (K27.out)
      have K53 : Hid (w3.cell? ⟨w.heap.size + 1, 4, none⟩ = some (.int .i64 b.C.n)) := kold hB (K28.out)
      have K54 : Hid (w3.cell? ⟨w.heap.size + 1, 5, none⟩ = some (.int .i64 b.C.d)) := kold hB (K29.out)
      have K55 : Hid (w3.cell? ⟨w.heap.size + 1, 6, none⟩ = some (.int .i64 b.D.n)) := kold hB (K30.out)
      have K56 : Hid (w3.cell? ⟨w.heap.size + 1, 7, none⟩ = some (.int .i64 b.D.d)) := kold hB (K31.out)
      have K57 : Hid (w3.cell? ⟨b2, 0, none⟩ = some (.int .i64 (jC a b))) := kold hB (K32.out)
      have K58 : Hid (w3.cell? ⟨b2, 1, none⟩ = some (.int .i64 (sel (jC a b) (jQA a b)).n)) := kold hB (K33.out)
      have K59 : Hid (w3.cell? ⟨b2, 2, none⟩ = some (.int .i64 (sel (jC a b) (jQA a b)).d)) := kold hB (K34.out)
      have K60 : Hid (w3.cell? ⟨b2, 3, none⟩ = some (.int .i64 (sel (jC a b) (jQB a b)).n)) := kold hB (K35.out)
      have K61 : Hid (w3.cell? ⟨b2, 4, none⟩ = some (.int .i64 (sel (jC a b) (jQB a b)).d)) := kold hB (K36.out)
      have K62 : Hid (w3.cell? ⟨b2, 5, none⟩ = some (.int .i64 (sel (jC a b) (jQC a b)).n)) := kold hB (K37.out)
      have K63 : Hid (w3.cell? ⟨b2, 6, none⟩ = some (.int .i64 (sel (jC a b) (jQC a b)).d)) := kold hB (K38.out)
      have K64 : Hid (w3.cell? ⟨b2, 7, none⟩ = some (.int .i64 (sel (jC a b) (jQD a b)).n)) := kold hB (K39.out)
      have K65 : Hid (w3.cell? ⟨b2, 8, none⟩ = some (.int .i64 (sel (jC a b) (jQD a b)).d)) := kold hB (K40.out)
      clear K16 K17 K18 K19 K20 K21 K22 K23 K24 K25 K26 K27 K28 K29 K30 K31 K32 K33 K34 K35 K36 K37 K38 K39 K40
      have K66 : Hid (w3.cell? ⟨b3, 0, none⟩ = some (.int .i64 (jC a b))) := d0
      have K67 : Hid (w3.cell? ⟨b3, 1, none⟩ = some (.int .i64 (sel (jC a b) (jQA a b)).n)) := d1
      have K68 : Hid (w3.cell? ⟨b3, 2, none⟩ = some (.int .i64 (sel (jC a b) (jQA a b)).d)) := d2
      have K69 : Hid (w3.cell? ⟨b3, 3, none⟩ = some (.int .i64 (sel (jC a b) (jQB a b)).n)) := d3
      have K70 : Hid (w3.cell? ⟨b3, 4, none⟩ = some (.int .i64 (sel (jC a b) (jQB a b)).d)) := d4
      have K71 : Hid (w3.cell? ⟨b3, 5, none⟩ = some (.int .i64 (sel (jC a b) (jQC a b)).n)) := d5
      have K72 : Hid (w3.cell? ⟨b3, 6, none⟩ = some (.int .i64 (sel (jC a b) (jQC a b)).d)) := d6
      have K73 : Hid (w3.cell? ⟨b3, 7, none⟩ = some (.int .i64 (sel (jC a b) (jQD a b)).n)) := d7
      have K74 : Hid (w3.cell? ⟨b3, 8, none⟩ = some (.int .i64 (sel (jC a b) (jQD a b)).d)) := d8
      clear hB hk1 hk2 d0 d1 d2 d3 d4 d5 d6 d7 d8
      have c16 := K57.out
      have c17 := K58.out
      have c18 := K59.out
      have c19 := K60.out
      have c20 := K61.out
      have c21 := K62.out
      have c22 := K63.out
      have c23 := K64.out
      have c24 := K65.out
      have c25 := K66.out
      have c26 := K67.out
      have c27 := K68.out
      have c28 := K69.out
      have c29 := K70.out
      have c30 := K71.out
      have c31 := K72.out
      have c32 := K73.out
      have c33 := K74.out
      go_wp2_with fail
      refine (eqMatRes_same _ ⟨sel (jC a b) (jQA a b), sel (jC a b) (jQB a b), sel (jC a b) (jQC a b), sel (jC a b) (jQD a b)⟩ _).mono ?_
      rintro e w4 ⟨rfl, hb⟩
      clear c16 c17 c18 c19 c20 c21 c22 c23 c24 c25 c26 c27 c28 c29 c30 c31 c32 c33
      have HO : Hid (Below w.heap.size w w4) := by have h := HO.out; have hs := h.size; refine box_step ?_ hb (by first | exact hs | (simp <;> omega)); go_grown
      have K75 : Hid (w4.cell? ⟨w.heap.size, 0, none⟩ = some (.int .i64 a.A.n)) := kold hb (K41.out)
      have K76 : Hid (w4.cell? ⟨w.heap.size, 1, none⟩ = some (.int .i64 a.A.d)) := kold hb (K42.out)
      have K77 : Hid (w4.cell? ⟨w.heap.size, 2, none⟩ = some (.int .i64 a.B.n)) := kold hb (K43.out)
      have K78 : Hid (w4.cell? ⟨w.heap.size, 3, none⟩ = some (.int .i64 a.B.d)) := kold hb (K44.out)
      have K79 : Hid (w4.cell? ⟨w.heap.size, 4, none⟩ = some (.int .i64 a.C.n)) := kold hb (K45.out)
      have K80 : Hid (w4.cell? ⟨w.heap.size, 5, none⟩ = some (.int .i64 a.C.d)) := kold hb (K46.out)
      have K81 : Hid (w4.cell? ⟨w.heap.size, 6, none⟩ = some (.int .i64 a.D.n)) := kold hb (K47.out)
      have K82 : Hid (w4.cell? ⟨w.heap.size, 7, none⟩ = some (.int .i64 a.D.d)) := kold hb (K48.out)
      have K83 : Hid (w4.cell? ⟨w.heap.size + 1, 0, none⟩ = some (.int .i64 b.A.n)) := kold hb (K49.out)
      have K84 : Hid (w4.cell? ⟨w.heap.size + 1, 1, none⟩ = some (.int .i64 b.A.d)) := kold hb (K50.out)
      have K85 : Hid (w4.cell? ⟨w.heap.size + 1, 2, none⟩ = some (.int .i64 b.B.n)) := kold hb (K51.out)
      have K86 : Hid (w4.cell? ⟨w.heap.size + 1, 3, none⟩ = some (.int .i64 b.B.d)) := kold hb (K52.out)
      have K87 : Hid (w4.cell? ⟨w.heap.size + 1, 4, none⟩ = some (.int .i64 b.C.n)) := kold hb (K53.out)
      have K88 : Hid (w4.cell? ⟨w.heap.size + 1, 5, none⟩ = some (.int .i64 b.C.d)) := kold hb (K54.out)
      have K89 : Hid (w4.cell? ⟨w.heap.size + 1, 6, none⟩ = some (.int .i64 b.D.n)) := kold hb (K55.out)
      have K90 : Hid (w4.cell? ⟨w.heap.size + 1, 7, none⟩ = some (.int .i64 b.D.d)) := kold hb (K56.out)
      have K91 : Hid (w4.cell? ⟨b2, 0, none⟩ = some (.int .i64 (jC a b))) := kold hb (K57.out)
      have K92 : Hid (w4.cell? ⟨b2, 1, none⟩ = some (.int .i64 (sel (jC a b) (jQA a b)).n)) := kold hb (K58.out)
      have K93 : Hid (w4.cell? ⟨b2, 2, none⟩ = some (.int .i64 (sel (jC a b) (jQA a b)).d)) := kold hb (K59.out)
      have K94 : Hid (w4.cell? ⟨b2, 3, none⟩ = some (.int .i64 (sel (jC a b) (jQB a b)).n)) := kold hb (K60.out)
      have K95 : Hid (w4.cell? ⟨b2, 4, none⟩ = some (.int .i64 (sel (jC a b) (jQB a b)).d)) := kold hb (K61.out)
      have K96 : Hid (w4.cell? ⟨b2, 5, none⟩ = some (.int .i64 (sel (jC a b) (jQC a b)).n)) := kold hb (K62.out)
      have K97 : Hid (w4.cell? ⟨b2, 6, none⟩ = some (.int .i64 (sel (jC a b) (jQC a b)).d)) := kold hb (K63.out)
      have K98 : Hid (w4.cell? ⟨b2, 7, none⟩ = some (.int .i64 (sel (jC a b) (jQD a b)).n)) := kold hb (K64.out)
      have K99 : Hid (w4.cell? ⟨b2, 8, none⟩ = some (.int .i64 (sel (jC a b) (jQD a b)).d)) := kold hb (K65.out)
      have K100 : Hid (w4.cell? ⟨b3, 0, none⟩ = some (.int .i64 (jC a b))) := kold hb (K66.out)
      have K101 : Hid (w4.cell? ⟨b3, 1, none⟩ = some (.int .i64 (sel (jC a b) (jQA a b)).n)) := kold hb (K67.out)
      have K102 : Hid (w4.cell? ⟨b3, 2, none⟩ = some (.int .i64 (sel (jC a b) (jQA a b)).d)) := kold hb (K68.out)
      have K103 : Hid (w4.cell? ⟨b3, 3, none⟩ = some (.int .i64 (sel (jC a b) (jQB a b)).n)) := kold hb (K69.out)
      have K104 : Hid (w4.cell? ⟨b3, 4, none⟩ = some (.int .i64 (sel (jC a b) (jQB a b)).d)) := kold hb (K70.out)
      have K105 : Hid (w4.cell? ⟨b3, 5, none⟩ = some (.int .i64 (sel (jC a b) (jQC a b)).n)) := kold hb (K71.out)
      have K106 : Hid (w4.cell? ⟨b3, 6, none⟩ = some (.int .i64 (sel (jC a b) (jQC a b)).d)) := kold hb (K72.out)
      have K107 : Hid (w4.cell? ⟨b3, 7, none⟩ = some (.int .i64 (sel (jC a b) (jQD a b)).n)) := kold hb (K73.out)
      have K108 : Hid (w4.cell? ⟨b3, 8, none⟩ = some (.int .i64 (sel (jC a b) (jQD a b)).d)) := kold hb (K74.out)
      clear K41 K42 K43 K44 K45 K46 K47 K48 K49 K50 K51 K52 K53 K54 K55 K56 K57 K58 K59 K60 K61 K62 K63 K64 K65 K66 K67 K68 K69 K70 K71 K72 K73 K74
      clear hb
      go_wp2
      go_ret
      refine ⟨by first | rfl | simp, ?_⟩
      have h := HO.out
      have hsz := h.size
      go_grown
set_option maxRecDepth 100000 in
theorem lifted (os : Os) (started : os.Started) (H : Type) (enc : TypeId × Value → H) :
    ReturnsInHanded {} Try.checked os 6 .any (Rows.fnExactJoinMatrixSpec.pre6 enc Try.prog Try.f6 Rows.fnExactJoinMatrixRow.domain false) (Rows.fnExactJoinMatrixSpec.post enc Try.prog Try.f6 false true false false) := by
  refine returnsInHanded_of_change (C := Try.checked) own started (by kernel_rfl) Try.func6
    (ChangeSpec.witness6 (enc := enc) (C := Try.checked) false ⟨#[], #[.agg #[.int .i64 0, .int .i64 0, .int .i64 0, .int .i64 0, .int .i64 0, .int .i64 0, .int .i64 0, .int .i64 0], .agg #[.int .i64 0, .int .i64 0, .int .i64 0, .int .i64 0, .int .i64 0, .int .i64 0, .int .i64 0, .int .i64 0]], []⟩ 8 (by kernel_rfl) (by kernel_rfl) (by kernel_rfl) (by kernel_rfl)) ?_
  intro W base args ds gs before hval0 hW hcnd _
  have hval : ∀ (j : Nat) t v, Try.f6.params[j]? = some t → args[j]? = some v → Value.okWide Try.prog W .any base t v := hval0
  have hW' := hW
  obtain ⟨p, q, hA0, hV, rfl, hfz, hnd⟩ := hW
  have hA : DataW.TrodAll enc Try.prog W 0 (fun _ => true) true Try.f6.params.toList args.toList ds p := hA0
  rw [Try.params6] at hA hval
  obtain ⟨v0, vs0, d0, ds0, p0, q0, hargs, rfl, rfl, h0, r0⟩ := trodAll_cons hA
  obtain ⟨v1, vs1, d1, ds1, p1, q1, rfl, rfl, rfl, h1, r1⟩ := trodAll_cons r0
  obtain ⟨rfl, rfl, rfl⟩ := trodAll_nil r1
  obtain rfl : args = #[v0, v1] := by cases args; simp_all
  obtain ⟨rfl, rfl⟩ := trodVars_none hV
  have k0 := h0
  have lt0 : ∀ x ∈ p0, x.block < W.heap.size := by obtain ⟨m, hm⟩ := k0; exact DataW.trod_lt m _ _ _ hm
  obtain ⟨a0, rfl⟩ := open_mat (hval 0 53 v0 rfl rfl) h0
  have k1 := h1
  have lt1 : ∀ x ∈ p1, x.block < W.heap.size := by obtain ⟨m, hm⟩ := k1; exact DataW.trod_lt m _ _ _ hm
  obtain ⟨a1, rfl⟩ := open_mat (hval 1 53 v1 rfl rfl) h1
  clear hA0 hval0
  refine (walk a0 a1 W).mono fun e W' ⟨he, bel⟩ => ?_
  subst he
  exact ⟨_, rfl, _, _, _, [], _, [], hW', trodAll_mk1 (shut_bool Try.underlying4 _), (trodAll_cons_mk (Below.trod laidOut (by kernel_rfl) (of_decide_eq_true (by kernel_rfl)) k0 bel lt0) (trodAll_cons_mk (Below.trod laidOut (by kernel_rfl) (of_decide_eq_true (by kernel_rfl)) k1 bel lt1) trodAll_mk0)), rfl, bel.frame _, fun h => by cases h⟩

theorem over : Rows.fnExactJoinMatrixRow.holds Try.pinned (OpenSpec.ofChange Rows.fnExactJoinMatrixSpec) :=
  OpenClaim.holds_of_wide 6 Try.f6 rfl rfl rfl rfl rfl rfl rfl ⟨rfl, rfl, rfl, rfl, rfl⟩ rfl rfl rfl rfl rfl (by kernel_rfl) Try.func6 (by kernel_rfl)
    (of_decide_eq_true (by kernel_rfl)) (by unfold Func.isWrapper; first | (rw [if_pos (by decide +kernel)]; kernel_rfl) | (rw [if_neg (by decide +kernel)]; exact ⟨rfl, rfl⟩))
    (fun os started H enc _ => lifted os started H enc)
end Go.Proofs.Ytnikgmjjkdhjbaa.LawJoinMatrix
namespace Go.Proofs.Ytnikgmjjkdhjbaa
theorem joinMatrix_holds : Rows.FnExactJoinMatrixSaid := LawJoinMatrix.over
#print axioms joinMatrix_holds
end Go.Proofs.Ytnikgmjjkdhjbaa
