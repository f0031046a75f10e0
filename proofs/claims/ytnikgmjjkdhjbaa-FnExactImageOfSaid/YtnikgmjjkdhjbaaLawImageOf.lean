/- At every system and fraction that come in, right or not, the program's ImageOf answers as the specification, field by field; nothing that was there is changed. -/
import Derived.Test.YtnikgmjjkdhjbaaOz
import Derived.Test.YtnikgmjjkdhjbaaIz
import Derived.Test.YtnikgmjjkdhjbaaRows
import Derived.Deep.RegionHeld3
import Derived.Deep.DeepCutAuto
namespace Go.Proofs.Ytnikgmjjkdhjbaa.LawImageOf
open Go.ChangeShapes Go.WideShapes Go.ChangeAt Go.RowKit Go.Joins
set_option linter.unusedVariables false
set_option linter.unusedSimpArgs false
set_option maxRecDepth 20000 in
set_option maxHeartbeats 3200000 in
theorem walk (m : Mx) (x : Q) (w : World) : Calls Try.prog 12 #[.agg #[.int .i64 m.A.n, .int .i64 m.A.d, .int .i64 m.B.n, .int .i64 m.B.d, .int .i64 m.C.n, .int .i64 m.C.d, .int .i64 m.D.n, .int .i64 m.D.d], .agg #[.int .i64 x.n, .int .i64 x.d]] w fun e w' => e = .returned (.bool true) ∧ Below w.heap.size w w' := by
  go_enter Try.func12, Try.ntmps12
  go_wp2_with fail
  obtain ⟨w1, hX⟩ : ∃ X, X = ((w.alloc (.cells #[.int .i64 m.A.n, .int .i64 m.A.d, .int .i64 m.B.n, .int .i64 m.B.d, .int .i64 m.C.n, .int .i64 m.C.d, .int .i64 m.D.n, .int .i64 m.D.d] 53)).alloc (.cells #[.int .i64 x.n, .int .i64 x.d] 40)) := ⟨_, rfl⟩
  rw [← hX]
  have HO : Hid (Below w.heap.size w w1) := by show Below w.heap.size w w1; rw [hX]; go_grown
  have K0 : Hid (w1.cell? ⟨w.heap.size, 0, none⟩ = some (.int .i64 m.A.n)) := by show w1.cell? ⟨w.heap.size, 0, none⟩ = some (.int .i64 m.A.n); rw [hX]; exact cell_old (cell_new (by simp) rfl)
  have K1 : Hid (w1.cell? ⟨w.heap.size, 1, none⟩ = some (.int .i64 m.A.d)) := by show w1.cell? ⟨w.heap.size, 1, none⟩ = some (.int .i64 m.A.d); rw [hX]; exact cell_old (cell_new (by simp) rfl)
  have K2 : Hid (w1.cell? ⟨w.heap.size, 2, none⟩ = some (.int .i64 m.B.n)) := by show w1.cell? ⟨w.heap.size, 2, none⟩ = some (.int .i64 m.B.n); rw [hX]; exact cell_old (cell_new (by simp) rfl)
  have K3 : Hid (w1.cell? ⟨w.heap.size, 3, none⟩ = some (.int .i64 m.B.d)) := by show w1.cell? ⟨w.heap.size, 3, none⟩ = some (.int .i64 m.B.d); rw [hX]; exact cell_old (cell_new (by simp) rfl)
  have K4 : Hid (w1.cell? ⟨w.heap.size, 4, none⟩ = some (.int .i64 m.C.n)) := by show w1.cell? ⟨w.heap.size, 4, none⟩ = some (.int .i64 m.C.n); rw [hX]; exact cell_old (cell_new (by simp) rfl)
  have K5 : Hid (w1.cell? ⟨w.heap.size, 5, none⟩ = some (.int .i64 m.C.d)) := by show w1.cell? ⟨w.heap.size, 5, none⟩ = some (.int .i64 m.C.d); rw [hX]; exact cell_old (cell_new (by simp) rfl)
  have K6 : Hid (w1.cell? ⟨w.heap.size, 6, none⟩ = some (.int .i64 m.D.n)) := by show w1.cell? ⟨w.heap.size, 6, none⟩ = some (.int .i64 m.D.n); rw [hX]; exact cell_old (cell_new (by simp) rfl)
  have K7 : Hid (w1.cell? ⟨w.heap.size, 7, none⟩ = some (.int .i64 m.D.d)) := by show w1.cell? ⟨w.heap.size, 7, none⟩ = some (.int .i64 m.D.d); rw [hX]; exact cell_old (cell_new (by simp) rfl)
  have K8 : Hid (w1.cell? ⟨w.heap.size + 1, 0, none⟩ = some (.int .i64 x.n)) := by show w1.cell? ⟨w.heap.size + 1, 0, none⟩ = some (.int .i64 x.n); rw [hX]; exact cell_new (by simp) rfl
  have K9 : Hid (w1.cell? ⟨w.heap.size + 1, 1, none⟩ = some (.int .i64 x.d)) := by show w1.cell? ⟨w.heap.size + 1, 1, none⟩ = some (.int .i64 x.d); rw [hX]; exact cell_new (by simp) rfl
  clear hX
  have k0 : ∀ W, Below w1.heap.size w1 W → W.cell? ⟨w.heap.size, 0, none⟩ = some (.int .i64 m.A.n) := fun _ h => kold h K0.out
  have k1 : ∀ W, Below w1.heap.size w1 W → W.cell? ⟨w.heap.size, 1, none⟩ = some (.int .i64 m.A.d) := fun _ h => kold h K1.out
  have k2 : ∀ W, Below w1.heap.size w1 W → W.cell? ⟨w.heap.size, 2, none⟩ = some (.int .i64 m.B.n) := fun _ h => kold h K2.out
  have k3 : ∀ W, Below w1.heap.size w1 W → W.cell? ⟨w.heap.size, 3, none⟩ = some (.int .i64 m.B.d) := fun _ h => kold h K3.out
  have k4 : ∀ W, Below w1.heap.size w1 W → W.cell? ⟨w.heap.size, 4, none⟩ = some (.int .i64 m.C.n) := fun _ h => kold h K4.out
  have k5 : ∀ W, Below w1.heap.size w1 W → W.cell? ⟨w.heap.size, 5, none⟩ = some (.int .i64 m.C.d) := fun _ h => kold h K5.out
  have k6 : ∀ W, Below w1.heap.size w1 W → W.cell? ⟨w.heap.size, 6, none⟩ = some (.int .i64 m.D.n) := fun _ h => kold h K6.out
  have k7 : ∀ W, Below w1.heap.size w1 W → W.cell? ⟨w.heap.size, 7, none⟩ = some (.int .i64 m.D.d) := fun _ h => kold h K7.out
  have k8 : ∀ W, Below w1.heap.size w1 W → W.cell? ⟨w.heap.size + 1, 0, none⟩ = some (.int .i64 x.n) := fun _ h => kold h K8.out
  have k9 : ∀ W, Below w1.heap.size w1 W → W.cell? ⟨w.heap.size + 1, 1, none⟩ = some (.int .i64 x.d) := fun _ h => kold h K9.out
  have hR0 : Below w1.heap.size w1 w1 := Below.refl _ _
  go_wp2_with fail
  go_cut [5] (fun p wx => ∃ k : Nat, p = .pointer (some ⟨k, 0, none⟩) ∧ w1.heap.size ≤ k ∧ k < wx.heap.size ∧ Below w1.heap.size w1 wx ∧ wx.cell? ⟨k, 0, none⟩ = some (.int .i64 (imC m x)) ∧ wx.cell? ⟨k, 1, none⟩ = some (.int .i64 (sel (imC m x) (nQ (bV m x))).n) ∧ wx.cell? ⟨k, 2, none⟩ = some (.int .i64 (sel (imC m x) (nQ (bV m x))).d) ∧ wx.cell? ⟨k, 3, none⟩ = some (.int .i64 (sel (imC m x) (cV m x)).n) ∧ wx.cell? ⟨k, 4, none⟩ = some (.int .i64 (sel (imC m x) (cV m x)).d))
  case first =>
    go_region_held3 (fun W => Below w1.heap.size w1 W) (go_grown) (first | (go_at_call 27; refine (toMat _ _).mono ?_; rintro e wz ⟨rfl, hb1⟩; have hs1 := hb1.size; (try simp at hs1); have hR1 : Below w1.heap.size w1 wz := (by refine box_step ?_ hb1 (by go_size); go_grown); (first | (have hZ := box_step hZ hb1 (Nat.le_refl _)) | (have hZ := hb1)); obtain ⟨ho1, hf1, hz1⟩ := olds' hZ) | (go_at_call 47; refine (toFrac_any _ _ _).mono ?_; rintro e wz ⟨rfl, hb1⟩; have hs1 := hb1.size; (try simp at hs1); have hR1 : Below w1.heap.size w1 wz := (by refine box_step ?_ hb1 (by go_size); go_grown); (first | (have hZ := box_step hZ hb1 (Nat.le_refl _)) | (have hZ := hb1)); obtain ⟨ho1, hf1, hz1⟩ := olds' hZ) | (go_at_call 15; refine (simg m x _).mono ?_; rintro e wz ⟨rfl, hb1⟩; have hs1 := hb1.size; (try simp at hs1); have hR1 : Below w1.heap.size w1 wz := (by refine box_step ?_ hb1 (by go_size); go_grown); (first | (have hZ := box_step hZ hb1 (Nat.le_refl _)) | (have hZ := hb1)); obtain ⟨ho1, hf1, hz1⟩ := olds' hZ))
    all_goals
      go_wp2_with fail
      go_meet
      case rel =>
        refine ⟨_, rfl, ?_, ?_, ?_, ?_, ?_, ?_, ?_, ?_⟩
        · omega
        · simp [World.setCell] <;> omega
        · go_grown
        · go_simp
        · go_simp
        · go_simp
        · go_simp
        · go_simp
  case rest =>
    obtain ⟨b2, rfl, hk1, hk2, hB, d0, d1, d2, d3, d4⟩ := hcut
    clear k0 k1 k2 k3 k4 k5 k6 k7 k8 k9 hR0
    obtain ⟨w2, hv⟩ : ∃ v, v = wc := ⟨_, rfl⟩
    subst hv
    have HO : Hid (Below w.heap.size w w2) := box_step HO.out hB (by first | exact Nat.le_refl _ | exact HO.out.size)
    have K10 : Hid (w2.cell? ⟨w.heap.size, 0, none⟩ = some (.int .i64 m.A.n)) := kold hB (K0.out)
    have K11 : Hid (w2.cell? ⟨w.heap.size, 1, none⟩ = some (.int .i64 m.A.d)) := kold hB (K1.out)
    have K12 : Hid (w2.cell? ⟨w.heap.size, 2, none⟩ = some (.int .i64 m.B.n)) := kold hB (K2.out)
    have K13 : Hid (w2.cell? ⟨w.heap.size, 3, none⟩ = some (.int .i64 m.B.d)) := kold hB (K3.out)
    have K14 : Hid (w2.cell? ⟨w.heap.size, 4, none⟩ = some (.int .i64 m.C.n)) := kold hB (K4.out)
    have K15 : Hid (w2.cell? ⟨w.heap.size, 5, none⟩ = some (.int .i64 m.C.d)) := kold hB (K5.out)
    have K16 : Hid (w2.cell? ⟨w.heap.size, 6, none⟩ = some (.int .i64 m.D.n)) := kold hB (K6.out)
    have K17 : Hid (w2.cell? ⟨w.heap.size, 7, none⟩ = some (.int .i64 m.D.d)) := kold hB (K7.out)
    have K18 : Hid (w2.cell? ⟨w.heap.size + 1, 0, none⟩ = some (.int .i64 x.n)) := kold hB (K8.out)
    have K19 : Hid (w2.cell? ⟨w.heap.size + 1, 1, none⟩ = some (.int .i64 x.d)) := kold hB (K9.out)
    clear K0 K1 K2 K3 K4 K5 K6 K7 K8 K9
    have K20 : Hid (w2.cell? ⟨b2, 0, none⟩ = some (.int .i64 (imC m x))) := d0
    have K21 : Hid (w2.cell? ⟨b2, 1, none⟩ = some (.int .i64 (sel (imC m x) (nQ (bV m x))).n)) := d1
    have K22 : Hid (w2.cell? ⟨b2, 2, none⟩ = some (.int .i64 (sel (imC m x) (nQ (bV m x))).d)) := d2
    have K23 : Hid (w2.cell? ⟨b2, 3, none⟩ = some (.int .i64 (sel (imC m x) (cV m x)).n)) := d3
    have K24 : Hid (w2.cell? ⟨b2, 4, none⟩ = some (.int .i64 (sel (imC m x) (cV m x)).d)) := d4
    clear hB hk1 hk2 d0 d1 d2 d3 d4
    have k0 : ∀ W, Below w2.heap.size w2 W → W.cell? ⟨w.heap.size, 0, none⟩ = some (.int .i64 m.A.n) := fun _ h => kold h K10.out
    have k1 : ∀ W, Below w2.heap.size w2 W → W.cell? ⟨w.heap.size, 1, none⟩ = some (.int .i64 m.A.d) := fun _ h => kold h K11.out
    have k2 : ∀ W, Below w2.heap.size w2 W → W.cell? ⟨w.heap.size, 2, none⟩ = some (.int .i64 m.B.n) := fun _ h => kold h K12.out
    have k3 : ∀ W, Below w2.heap.size w2 W → W.cell? ⟨w.heap.size, 3, none⟩ = some (.int .i64 m.B.d) := fun _ h => kold h K13.out
    have k4 : ∀ W, Below w2.heap.size w2 W → W.cell? ⟨w.heap.size, 4, none⟩ = some (.int .i64 m.C.n) := fun _ h => kold h K14.out
    have k5 : ∀ W, Below w2.heap.size w2 W → W.cell? ⟨w.heap.size, 5, none⟩ = some (.int .i64 m.C.d) := fun _ h => kold h K15.out
    have k6 : ∀ W, Below w2.heap.size w2 W → W.cell? ⟨w.heap.size, 6, none⟩ = some (.int .i64 m.D.n) := fun _ h => kold h K16.out
    have k7 : ∀ W, Below w2.heap.size w2 W → W.cell? ⟨w.heap.size, 7, none⟩ = some (.int .i64 m.D.d) := fun _ h => kold h K17.out
    have k8 : ∀ W, Below w2.heap.size w2 W → W.cell? ⟨w.heap.size + 1, 0, none⟩ = some (.int .i64 x.n) := fun _ h => kold h K18.out
    have k9 : ∀ W, Below w2.heap.size w2 W → W.cell? ⟨w.heap.size + 1, 1, none⟩ = some (.int .i64 x.d) := fun _ h => kold h K19.out
    have hR0 : Below w2.heap.size w2 w2 := Below.refl _ _
    go_wp2_with fail
    go_cut [6] (fun p wx => ∃ k : Nat, p = .pointer (some ⟨k, 0, none⟩) ∧ w2.heap.size ≤ k ∧ k < wx.heap.size ∧ Below w2.heap.size w2 wx ∧ wx.cell? ⟨k, 0, none⟩ = some (.int .i64 (imC m x)) ∧ wx.cell? ⟨k, 1, none⟩ = some (.int .i64 (sel (imC m x) (nQ (bV m x))).n) ∧ wx.cell? ⟨k, 2, none⟩ = some (.int .i64 (sel (imC m x) (nQ (bV m x))).d) ∧ wx.cell? ⟨k, 3, none⟩ = some (.int .i64 (sel (imC m x) (cV m x)).n) ∧ wx.cell? ⟨k, 4, none⟩ = some (.int .i64 (sel (imC m x) (cV m x)).d))
    case first =>
      go_region_held3 (fun W => Below w2.heap.size w2 W) (go_grown) (first | (go_at_call 27; refine (toMat _ _).mono ?_; rintro e wz ⟨rfl, hb1⟩; have hs1 := hb1.size; (try simp at hs1); have hR1 : Below w2.heap.size w2 wz := (by refine box_step ?_ hb1 (by go_size); go_grown); (first | (have hZ := box_step hZ hb1 (Nat.le_refl _)) | (have hZ := hb1)); obtain ⟨ho1, hf1, hz1⟩ := olds' hZ) | (go_at_call 47; refine (toFrac_any _ _ _).mono ?_; rintro e wz ⟨rfl, hb1⟩; have hs1 := hb1.size; (try simp at hs1); have hR1 : Below w2.heap.size w2 wz := (by refine box_step ?_ hb1 (by go_size); go_grown); (first | (have hZ := box_step hZ hb1 (Nat.le_refl _)) | (have hZ := hb1)); obtain ⟨ho1, hf1, hz1⟩ := olds' hZ) | (go_at_call 16; refine (iimg m x _).mono ?_; rintro e wz ⟨rfl, hb1⟩; have hs1 := hb1.size; (try simp at hs1); have hR1 : Below w2.heap.size w2 wz := (by refine box_step ?_ hb1 (by go_size); go_grown); (first | (have hZ := box_step hZ hb1 (Nat.le_refl _)) | (have hZ := hb1)); obtain ⟨ho1, hf1, hz1⟩ := olds' hZ))
      all_goals
        go_wp2_with fail
        go_meet
        case rel =>
          refine ⟨_, rfl, ?_, ?_, ?_, ?_, ?_, ?_, ?_, ?_⟩
          · omega
          · simp [World.setCell] <;> omega
          · go_grown
          · go_simp
          · go_simp
          · go_simp
          · go_simp
          · go_simp
    case rest =>
      obtain ⟨b3, rfl, hk1, hk2, hB, d0, d1, d2, d3, d4⟩ := hcut
      clear k0 k1 k2 k3 k4 k5 k6 k7 k8 k9 hR0
      obtain ⟨w3, hv⟩ : ∃ v, v = wc := ⟨_, rfl⟩
      subst hv
      have HO : Hid (Below w.heap.size w w3) := box_step HO.out hB (by first | exact Nat.le_refl _ | exact HO.out.size)
      have K25 : Hid (w3.cell? ⟨w.heap.size, 0, none⟩ = some (.int .i64 m.A.n)) := kold hB (K10.out)
      have K26 : Hid (w3.cell? ⟨w.heap.size, 1, none⟩ = some (.int .i64 m.A.d)) := kold hB (K11.out)
      have K27 : Hid (w3.cell? ⟨w.heap.size, 2, none⟩ = some (.int .i64 m.B.n)) := kold hB (K12.out)
      have K28 : Hid (w3.cell? ⟨w.heap.size, 3, none⟩ = some (.int .i64 m.B.d)) := kold hB (K13.out)
      have K29 : Hid (w3.cell? ⟨w.heap.size, 4, none⟩ = some (.int .i64 m.C.n)) := kold hB (K14.out)
      have K30 : Hid (w3.cell? ⟨w.heap.size, 5, none⟩ = some (.int .i64 m.C.d)) := kold hB (K15.out)
      have K31 : Hid (w3.cell? ⟨w.heap.size, 6, none⟩ = some (.int .i64 m.D.n)) := kold hB (K16.out)
      have K32 : Hid (w3.cell? ⟨w.heap.size, 7, none⟩ = some (.int .i64 m.D.d)) := kold hB (K17.out)
      have K33 : Hid (w3.cell? ⟨w.heap.size + 1, 0, none⟩ = some (.int .i64 x.n)) := kold hB (K18.out)
      have K34 : Hid (w3.cell? ⟨w.heap.size + 1, 1, none⟩ = some (.int .i64 x.d)) := kold hB (K19.out)
      have K35 : Hid (w3.cell? ⟨b2, 0, none⟩ = some (.int .i64 (imC m x))) := kold hB (K20.out)
      have K36 : Hid (w3.cell? ⟨b2, 1, none⟩ = some (.int .i64 (sel (imC m x) (nQ (bV m x))).n)) := kold hB (K21.out)
      have K37 : Hid (w3.cell? ⟨b2, 2, none⟩ = some (.int .i64 (sel (imC m x) (nQ (bV m x))).d)) := kold hB (K22.out)
      have K38 : Hid (w3.cell? ⟨b2, 3, none⟩ = some (.int .i64 (sel (imC m x) (cV m x)).n)) := kold hB (K23.out)
      have K39 : Hid (w3.cell? ⟨b2, 4, none⟩ = some (.int .i64 (sel (imC m x) (cV m x)).d)) := kold hB (K24.out)
      clear K10 K11 K12 K13 K14 K15 K16 K17 K18 K19 K20 K21 K22 K23 K24
      have K40 : Hid (w3.cell? ⟨b3, 0, none⟩ = some (.int .i64 (imC m x))) := d0
      have K41 : Hid (w3.cell? ⟨b3, 1, none⟩ = some (.int .i64 (sel (imC m x) (nQ (bV m x))).n)) := d1
      have K42 : Hid (w3.cell? ⟨b3, 2, none⟩ = some (.int .i64 (sel (imC m x) (nQ (bV m x))).d)) := d2
      have K43 : Hid (w3.cell? ⟨b3, 3, none⟩ = some (.int .i64 (sel (imC m x) (cV m x)).n)) := d3
      have K44 : Hid (w3.cell? ⟨b3, 4, none⟩ = some (.int .i64 (sel (imC m x) (cV m x)).d)) := d4
      clear hB hk1 hk2 d0 d1 d2 d3 d4
      have c10 := K35.out
      have c11 := K36.out
      have c12 := K37.out
      have c13 := K38.out
      have c14 := K39.out
      have c15 := K40.out
      have c16 := K41.out
      have c17 := K42.out
      have c18 := K43.out
      have c19 := K44.out
      go_wp2_with fail
      refine (eqImage_same _ (sel (imC m x) (nQ (bV m x))) (sel (imC m x) (cV m x)) _).mono ?_
      rintro e w4 ⟨rfl, hb⟩
      clear c10 c11 c12 c13 c14 c15 c16 c17 c18 c19
      have HO : Hid (Below w.heap.size w w4) := by have h := HO.out; have hs := h.size; refine box_step ?_ hb (by first | exact hs | (simp <;> omega)); go_grown
      have K45 : Hid (w4.cell? ⟨w.heap.size, 0, none⟩ = some (.int .i64 m.A.n)) := kold hb (K25.out)
      have K46 : Hid (w4.cell? ⟨w.heap.size, 1, none⟩ = some (.int .i64 m.A.d)) := kold hb (K26.out)
      have K47 : Hid (w4.cell? ⟨w.heap.size, 2, none⟩ = some (.int .i64 m.B.n)) := kold hb (K27.out)
      have K48 : Hid (w4.cell? ⟨w.heap.size, 3, none⟩ = some (.int .i64 m.B.d)) := kold hb (K28.out)
      have K49 : Hid (w4.cell? ⟨w.heap.size, 4, none⟩ = some (.int .i64 m.C.n)) := kold hb (K29.out)
      have K50 : Hid (w4.cell? ⟨w.heap.size, 5, none⟩ = some (.int .i64 m.C.d)) := kold hb (K30.out)
      have K51 : Hid (w4.cell? ⟨w.heap.size, 6, none⟩ = some (.int .i64 m.D.n)) := kold hb (K31.out)
      have K52 : Hid (w4.cell? ⟨w.heap.size, 7, none⟩ = some (.int .i64 m.D.d)) := kold hb (K32.out)
      have K53 : Hid (w4.cell? ⟨w.heap.size + 1, 0, none⟩ = some (.int .i64 x.n)) := kold hb (K33.out)
      have K54 : Hid (w4.cell? ⟨w.heap.size + 1, 1, none⟩ = some (.int .i64 x.d)) := kold hb (K34.out)
      have K55 : Hid (w4.cell? ⟨b2, 0, none⟩ = some (.int .i64 (imC m x))) := kold hb (K35.out)
      have K56 : Hid (w4.cell? ⟨b2, 1, none⟩ = some (.int .i64 (sel (imC m x) (nQ (bV m x))).n)) := kold hb (K36.out)
      have K57 : Hid (w4.cell? ⟨b2, 2, none⟩ = some (.int .i64 (sel (imC m x) (nQ (bV m x))).d)) := kold hb (K37.out)
      have K58 : Hid (w4.cell? ⟨b2, 3, none⟩ = some (.int .i64 (sel (imC m x) (cV m x)).n)) := kold hb (K38.out)
      have K59 : Hid (w4.cell? ⟨b2, 4, none⟩ = some (.int .i64 (sel (imC m x) (cV m x)).d)) := kold hb (K39.out)
      have K60 : Hid (w4.cell? ⟨b3, 0, none⟩ = some (.int .i64 (imC m x))) := kold hb (K40.out)
      have K61 : Hid (w4.cell? ⟨b3, 1, none⟩ = some (.int .i64 (sel (imC m x) (nQ (bV m x))).n)) := kold hb (K41.out)
      have K62 : Hid (w4.cell? ⟨b3, 2, none⟩ = some (.int .i64 (sel (imC m x) (nQ (bV m x))).d)) := kold hb (K42.out)
      have K63 : Hid (w4.cell? ⟨b3, 3, none⟩ = some (.int .i64 (sel (imC m x) (cV m x)).n)) := kold hb (K43.out)
      have K64 : Hid (w4.cell? ⟨b3, 4, none⟩ = some (.int .i64 (sel (imC m x) (cV m x)).d)) := kold hb (K44.out)
      clear K25 K26 K27 K28 K29 K30 K31 K32 K33 K34 K35 K36 K37 K38 K39 K40 K41 K42 K43 K44
      clear hb
      go_wp2
      go_ret
      refine ⟨by first | rfl | simp, ?_⟩
      have h := HO.out
      have hsz := h.size
      go_grown
set_option maxRecDepth 100000 in
theorem lifted (os : Os) (started : os.Started) (H : Type) (enc : TypeId × Value → H) :
    ReturnsInHanded {} Try.checked os 12 .any (Rows.fnExactImageOfSpec.pre6 enc Try.prog Try.f12 Rows.fnExactImageOfRow.domain false) (Rows.fnExactImageOfSpec.post enc Try.prog Try.f12 false true false false) := by
  refine returnsInHanded_of_change (C := Try.checked) own started (by kernel_rfl) Try.func12
    (ChangeSpec.witness6 (enc := enc) (C := Try.checked) false ⟨#[], #[.agg #[.int .i64 0, .int .i64 0, .int .i64 0, .int .i64 0, .int .i64 0, .int .i64 0, .int .i64 0, .int .i64 0], .agg #[.int .i64 0, .int .i64 0]], []⟩ 8 (by kernel_rfl) (by kernel_rfl) (by kernel_rfl) (by kernel_rfl)) ?_
  intro W base args ds gs before hval0 hW hcnd _
  have hval : ∀ (j : Nat) t v, Try.f12.params[j]? = some t → args[j]? = some v → Value.okWide Try.prog W .any base t v := hval0
  have hW' := hW
  obtain ⟨p, q, hA0, hV, rfl, hfz, hnd⟩ := hW
  have hA : DataW.TrodAll enc Try.prog W 0 (fun _ => true) true Try.f12.params.toList args.toList ds p := hA0
  rw [Try.params12] at hA hval
  obtain ⟨v0, vs0, d0, ds0, p0, q0, hargs, rfl, rfl, h0, r0⟩ := trodAll_cons hA
  obtain ⟨v1, vs1, d1, ds1, p1, q1, rfl, rfl, rfl, h1, r1⟩ := trodAll_cons r0
  obtain ⟨rfl, rfl, rfl⟩ := trodAll_nil r1
  obtain rfl : args = #[v0, v1] := by cases args; simp_all
  obtain ⟨rfl, rfl⟩ := trodVars_none hV
  have k0 := h0
  have lt0 : ∀ x ∈ p0, x.block < W.heap.size := by obtain ⟨m, hm⟩ := k0; exact DataW.trod_lt m _ _ _ hm
  obtain ⟨a0, rfl⟩ := open_mat (hval 0 53 v0 rfl rfl) h0
  have k1 := h1
  have lt1 : ∀ x ∈ p1, x.block < W.heap.size := by obtain ⟨m, hm⟩ := k1; exact DataW.trod_lt m _ _ _ hm
  obtain ⟨n1, m1, rfl, _, _⟩ := open_frac (hval 1 40 v1 rfl rfl) h1
  clear hA0 hval0
  refine (walk a0 ⟨n1, m1⟩ W).mono fun e W' ⟨he, bel⟩ => ?_
  subst he
  exact ⟨_, rfl, _, _, _, [], _, [], hW', trodAll_mk1 (shut_bool Try.underlying4 _), (trodAll_cons_mk (Below.trod laidOut (by kernel_rfl) (of_decide_eq_true (by kernel_rfl)) k0 bel lt0) (trodAll_cons_mk (Below.trod laidOut (by kernel_rfl) (of_decide_eq_true (by kernel_rfl)) k1 bel lt1) trodAll_mk0)), rfl, bel.frame _, fun h => by cases h⟩

theorem over : Rows.fnExactImageOfRow.holds Try.pinned (OpenSpec.ofChange Rows.fnExactImageOfSpec) :=
  OpenClaim.holds_of_wide 12 Try.f12 rfl rfl rfl rfl rfl rfl rfl ⟨rfl, rfl, rfl, rfl, rfl⟩ rfl rfl rfl rfl rfl (by kernel_rfl) Try.func12 (by kernel_rfl)
    (of_decide_eq_true (by kernel_rfl)) (by unfold Func.isWrapper; first | (rw [if_pos (by decide +kernel)]; kernel_rfl) | (rw [if_neg (by decide +kernel)]; exact ⟨rfl, rfl⟩))
    (fun os started H enc _ => lifted os started H enc)
end Go.Proofs.Ytnikgmjjkdhjbaa.LawImageOf
namespace Go.Proofs.Ytnikgmjjkdhjbaa
theorem imageOf_holds : Rows.FnExactImageOfSaid := LawImageOf.over
#print axioms imageOf_holds
end Go.Proofs.Ytnikgmjjkdhjbaa
