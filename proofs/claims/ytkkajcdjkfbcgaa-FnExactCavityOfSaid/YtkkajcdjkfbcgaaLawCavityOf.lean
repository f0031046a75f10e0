/- At every length and radii the program's CavityOf answers as the specification; nothing that was there is changed. -/
import Derived.Test.YtkkajcdjkfbcgaaCm
import Derived.Test.YtkkajcdjkfbcgaaOpen
import Derived.Test.YtkkajcdjkfbcgaaMake
import Derived.Handy
import Derived.Deep.RegionHeld3
import Derived.Deep.DeepCutAuto
namespace Go.Proofs.Ytkkajcdjkfbcgaa.LawCavityOf
set_option linter.unusedSimpArgs false
open Go.ChangeShapes Go.WideShapes Go.ChangeAt Go.RowKit Go.Joins
set_option linter.unusedVariables false

set_option maxRecDepth 20000 in
set_option maxHeartbeats 1600000 in
theorem eqCav_same (c : Int) (a b f : Q) (st : Bool) (w : World) : Calls Try.prog 37 #[.agg #[.int .i64 c, .int .i64 a.n, .int .i64 a.d, .int .i64 b.n, .int .i64 b.d, .int .i64 f.n, .int .i64 f.d, .bool st], .agg #[.int .i64 c, .int .i64 a.n, .int .i64 a.d, .int .i64 b.n, .int .i64 b.d, .int .i64 f.n, .int .i64 f.d, .bool st]] w fun e w' => e = .returned (.bool true) ∧ Below w.heap.size w w' := by
  go_enter Try.func37, Try.ntmps37
  go_wp2_with fail
  refine (eqFrac_same _ _ _).mono ?_
  rintro e w1 ⟨rfl, hb⟩
  have HO : Hid (Below w.heap.size w w1) := by refine box_step ?_ hb (by simp <;> omega); go_grown
  have X0 : Blk w1 (w.heap.size) #[.int .i64 c, .int .i64 a.n, .int .i64 a.d, .int .i64 b.n, .int .i64 b.d, .int .i64 f.n, .int .i64 f.d, .bool st] 36 := Blk.old ((Blk.alloc (Blk.new (by simp)) _)) hb
  have K0 : Hid (w1.cell? ⟨w.heap.size, 0, none⟩ = some (.int .i64 c)) := X0.cell rfl
  have K1 : Hid (w1.cell? ⟨w.heap.size, 1, none⟩ = some (.int .i64 a.n)) := X0.cell rfl
  have K2 : Hid (w1.cell? ⟨w.heap.size, 2, none⟩ = some (.int .i64 a.d)) := X0.cell rfl
  have K3 : Hid (w1.cell? ⟨w.heap.size, 3, none⟩ = some (.int .i64 b.n)) := X0.cell rfl
  have K4 : Hid (w1.cell? ⟨w.heap.size, 4, none⟩ = some (.int .i64 b.d)) := X0.cell rfl
  have K5 : Hid (w1.cell? ⟨w.heap.size, 5, none⟩ = some (.int .i64 f.n)) := X0.cell rfl
  have K6 : Hid (w1.cell? ⟨w.heap.size, 6, none⟩ = some (.int .i64 f.d)) := X0.cell rfl
  have K7 : Hid (w1.cell? ⟨w.heap.size, 7, none⟩ = some (.bool st)) := X0.cell rfl
  clear X0
  have X1 : Blk w1 (w.heap.size + 1) #[.int .i64 c, .int .i64 a.n, .int .i64 a.d, .int .i64 b.n, .int .i64 b.d, .int .i64 f.n, .int .i64 f.d, .bool st] 36 := Blk.old ((Blk.new (by simp))) hb
  have K8 : Hid (w1.cell? ⟨w.heap.size + 1, 0, none⟩ = some (.int .i64 c)) := X1.cell rfl
  have K9 : Hid (w1.cell? ⟨w.heap.size + 1, 1, none⟩ = some (.int .i64 a.n)) := X1.cell rfl
  have K10 : Hid (w1.cell? ⟨w.heap.size + 1, 2, none⟩ = some (.int .i64 a.d)) := X1.cell rfl
  have K11 : Hid (w1.cell? ⟨w.heap.size + 1, 3, none⟩ = some (.int .i64 b.n)) := X1.cell rfl
  have K12 : Hid (w1.cell? ⟨w.heap.size + 1, 4, none⟩ = some (.int .i64 b.d)) := X1.cell rfl
  have K13 : Hid (w1.cell? ⟨w.heap.size + 1, 5, none⟩ = some (.int .i64 f.n)) := X1.cell rfl
  have K14 : Hid (w1.cell? ⟨w.heap.size + 1, 6, none⟩ = some (.int .i64 f.d)) := X1.cell rfl
  have K15 : Hid (w1.cell? ⟨w.heap.size + 1, 7, none⟩ = some (.bool st)) := X1.cell rfl
  clear X1
  clear hb
  have c0 := K0.out
  have c1 := K1.out
  have c2 := K2.out
  have c3 := K3.out
  have c4 := K4.out
  have c5 := K5.out
  have c6 := K6.out
  have c7 := K7.out
  have c8 := K8.out
  have c9 := K9.out
  have c10 := K10.out
  have c11 := K11.out
  have c12 := K12.out
  have c13 := K13.out
  have c14 := K14.out
  have c15 := K15.out
  go_wp2_with fail
  refine (eqFrac_same _ _ _).mono ?_
  rintro e w2 ⟨rfl, hb⟩
  clear c0 c1 c2 c3 c4 c5 c6 c7 c8 c9 c10 c11 c12 c13 c14 c15
  have HO : Hid (Below w.heap.size w w2) := by have h := HO.out; have hs := h.size; refine box_step ?_ hb (by first | exact hs | (simp <;> omega)); go_grown
  have K16 : Hid (w2.cell? ⟨w.heap.size, 0, none⟩ = some (.int .i64 c)) := kold hb (K0.out)
  have K17 : Hid (w2.cell? ⟨w.heap.size, 1, none⟩ = some (.int .i64 a.n)) := kold hb (K1.out)
  have K18 : Hid (w2.cell? ⟨w.heap.size, 2, none⟩ = some (.int .i64 a.d)) := kold hb (K2.out)
  have K19 : Hid (w2.cell? ⟨w.heap.size, 3, none⟩ = some (.int .i64 b.n)) := kold hb (K3.out)
  have K20 : Hid (w2.cell? ⟨w.heap.size, 4, none⟩ = some (.int .i64 b.d)) := kold hb (K4.out)
  have K21 : Hid (w2.cell? ⟨w.heap.size, 5, none⟩ = some (.int .i64 f.n)) := kold hb (K5.out)
  have K22 : Hid (w2.cell? ⟨w.heap.size, 6, none⟩ = some (.int .i64 f.d)) := kold hb (K6.out)
  have K23 : Hid (w2.cell? ⟨w.heap.size, 7, none⟩ = some (.bool st)) := kold hb (K7.out)
  have K24 : Hid (w2.cell? ⟨w.heap.size + 1, 0, none⟩ = some (.int .i64 c)) := kold hb (K8.out)
  have K25 : Hid (w2.cell? ⟨w.heap.size + 1, 1, none⟩ = some (.int .i64 a.n)) := kold hb (K9.out)
  have K26 : Hid (w2.cell? ⟨w.heap.size + 1, 2, none⟩ = some (.int .i64 a.d)) := kold hb (K10.out)
  have K27 : Hid (w2.cell? ⟨w.heap.size + 1, 3, none⟩ = some (.int .i64 b.n)) := kold hb (K11.out)
  have K28 : Hid (w2.cell? ⟨w.heap.size + 1, 4, none⟩ = some (.int .i64 b.d)) := kold hb (K12.out)
  have K29 : Hid (w2.cell? ⟨w.heap.size + 1, 5, none⟩ = some (.int .i64 f.n)) := kold hb (K13.out)
  have K30 : Hid (w2.cell? ⟨w.heap.size + 1, 6, none⟩ = some (.int .i64 f.d)) := kold hb (K14.out)
  have K31 : Hid (w2.cell? ⟨w.heap.size + 1, 7, none⟩ = some (.bool st)) := kold hb (K15.out)
  clear K0 K1 K2 K3 K4 K5 K6 K7 K8 K9 K10 K11 K12 K13 K14 K15
  clear hb
  have c0 := K16.out
  have c1 := K17.out
  have c2 := K18.out
  have c3 := K19.out
  have c4 := K20.out
  have c5 := K21.out
  have c6 := K22.out
  have c7 := K23.out
  have c8 := K24.out
  have c9 := K25.out
  have c10 := K26.out
  have c11 := K27.out
  have c12 := K28.out
  have c13 := K29.out
  have c14 := K30.out
  have c15 := K31.out
  go_wp2_with fail
  refine (eqFrac_same _ _ _).mono ?_
  rintro e w3 ⟨rfl, hb⟩
  clear c0 c1 c2 c3 c4 c5 c6 c7 c8 c9 c10 c11 c12 c13 c14 c15
  have HO : Hid (Below w.heap.size w w3) := by have h := HO.out; have hs := h.size; refine box_step ?_ hb (by first | exact hs | (simp <;> omega)); go_grown
  have K32 : Hid (w3.cell? ⟨w.heap.size, 0, none⟩ = some (.int .i64 c)) := kold hb (K16.out)
  have K33 : Hid (w3.cell? ⟨w.heap.size, 1, none⟩ = some (.int .i64 a.n)) := kold hb (K17.out)
  have K34 : Hid (w3.cell? ⟨w.heap.size, 2, none⟩ = some (.int .i64 a.d)) := kold hb (K18.out)
  have K35 : Hid (w3.cell? ⟨w.heap.size, 3, none⟩ = some (.int .i64 b.n)) := kold hb (K19.out)
  have K36 : Hid (w3.cell? ⟨w.heap.size, 4, none⟩ = some (.int .i64 b.d)) := kold hb (K20.out)
  have K37 : Hid (w3.cell? ⟨w.heap.size, 5, none⟩ = some (.int .i64 f.n)) := kold hb (K21.out)
  have K38 : Hid (w3.cell? ⟨w.heap.size, 6, none⟩ = some (.int .i64 f.d)) := kold hb (K22.out)
  have K39 : Hid (w3.cell? ⟨w.heap.size, 7, none⟩ = some (.bool st)) := kold hb (K23.out)
  have K40 : Hid (w3.cell? ⟨w.heap.size + 1, 0, none⟩ = some (.int .i64 c)) := kold hb (K24.out)
  have K41 : Hid (w3.cell? ⟨w.heap.size + 1, 1, none⟩ = some (.int .i64 a.n)) := kold hb (K25.out)
  have K42 : Hid (w3.cell? ⟨w.heap.size + 1, 2, none⟩ = some (.int .i64 a.d)) := kold hb (K26.out)
  have K43 : Hid (w3.cell? ⟨w.heap.size + 1, 3, none⟩ = some (.int .i64 b.n)) := kold hb (K27.out)
  have K44 : Hid (w3.cell? ⟨w.heap.size + 1, 4, none⟩ = some (.int .i64 b.d)) := kold hb (K28.out)
  have K45 : Hid (w3.cell? ⟨w.heap.size + 1, 5, none⟩ = some (.int .i64 f.n)) := kold hb (K29.out)
  have K46 : Hid (w3.cell? ⟨w.heap.size + 1, 6, none⟩ = some (.int .i64 f.d)) := kold hb (K30.out)
  have K47 : Hid (w3.cell? ⟨w.heap.size + 1, 7, none⟩ = some (.bool st)) := kold hb (K31.out)
  clear K16 K17 K18 K19 K20 K21 K22 K23 K24 K25 K26 K27 K28 K29 K30 K31
  clear hb
  have c0 := K32.out
  have c1 := K33.out
  have c2 := K34.out
  have c3 := K35.out
  have c4 := K36.out
  have c5 := K37.out
  have c6 := K38.out
  have c7 := K39.out
  have c8 := K40.out
  have c9 := K41.out
  have c10 := K42.out
  have c11 := K43.out
  have c12 := K44.out
  have c13 := K45.out
  have c14 := K46.out
  have c15 := K47.out
  go_wp2
  go_ret
  refine ⟨by first | rfl | simp, ?_⟩
  have h := HO.out
  have hsz := h.size
  go_grown
set_option maxRecDepth 20000 in
set_option maxHeartbeats 6400000 in
theorem walk (L A B : Q) (w : World) : Calls Try.prog 8 #[.agg #[.int .i64 L.n, .int .i64 L.d], .agg #[.int .i64 A.n, .int .i64 A.d], .agg #[.int .i64 B.n, .int .i64 B.d]] w fun e w' => e = .returned (.bool true) ∧ Below w.heap.size w w' := by
  obtain ⟨c, a, b, f, st, hS, hI⟩ := cav_both L A B
  have SV : Hid (∀ w, Calls Try.prog 19 #[.agg #[.int .i64 L.n, .int .i64 L.d], .agg #[.int .i64 A.n, .int .i64 A.d], .agg #[.int .i64 B.n, .int .i64 B.d]] w fun e w' => e = .returned (.agg #[.int .i64 c, .int .i64 a.n, .int .i64 a.d, .int .i64 b.n, .int .i64 b.d, .int .i64 f.n, .int .i64 f.d, .bool st]) ∧ Below w.heap.size w w') := hS
  have IV : Hid (∀ w, Calls Try.prog 20 #[.agg #[.int .i64 L.n, .int .i64 L.d], .agg #[.int .i64 A.n, .int .i64 A.d], .agg #[.int .i64 B.n, .int .i64 B.d]] w fun e w' => e = .returned (.agg #[.int .i64 c, .int .i64 a.n, .int .i64 a.d, .int .i64 b.n, .int .i64 b.d, .int .i64 f.n, .int .i64 f.d, .bool st]) ∧ Below w.heap.size w w') := hI
  clear hS hI
  go_enter Try.func8, Try.ntmps8
  go_upto_region 1 with fail
  obtain ⟨w1, hX⟩ : ∃ X, X = (((w.alloc (.cells #[.int .i64 L.n, .int .i64 L.d] 66)).alloc (.cells #[.int .i64 A.n, .int .i64 A.d] 66)).alloc (.cells #[.int .i64 B.n, .int .i64 B.d] 66)) := ⟨_, rfl⟩
  rw [← hX]
  have HO : Hid (Below w.heap.size w w1) := by show Below w.heap.size w w1; rw [hX]; go_grown
  have K0 : Hid (w1.cell? ⟨w.heap.size, 0, none⟩ = some (.int .i64 L.n)) := by show w1.cell? ⟨w.heap.size, 0, none⟩ = some (.int .i64 L.n); rw [hX]; exact cell_old (cell_old (cell_new (by simp) rfl))
  have K1 : Hid (w1.cell? ⟨w.heap.size, 1, none⟩ = some (.int .i64 L.d)) := by show w1.cell? ⟨w.heap.size, 1, none⟩ = some (.int .i64 L.d); rw [hX]; exact cell_old (cell_old (cell_new (by simp) rfl))
  have K2 : Hid (w1.cell? ⟨w.heap.size + 1, 0, none⟩ = some (.int .i64 A.n)) := by show w1.cell? ⟨w.heap.size + 1, 0, none⟩ = some (.int .i64 A.n); rw [hX]; exact cell_old (cell_new (by simp) rfl)
  have K3 : Hid (w1.cell? ⟨w.heap.size + 1, 1, none⟩ = some (.int .i64 A.d)) := by show w1.cell? ⟨w.heap.size + 1, 1, none⟩ = some (.int .i64 A.d); rw [hX]; exact cell_old (cell_new (by simp) rfl)
  have K4 : Hid (w1.cell? ⟨w.heap.size + 1 + 1, 0, none⟩ = some (.int .i64 B.n)) := by show w1.cell? ⟨w.heap.size + 1 + 1, 0, none⟩ = some (.int .i64 B.n); rw [hX]; exact cell_new (by simp) rfl
  have K5 : Hid (w1.cell? ⟨w.heap.size + 1 + 1, 1, none⟩ = some (.int .i64 B.d)) := by show w1.cell? ⟨w.heap.size + 1 + 1, 1, none⟩ = some (.int .i64 B.d); rw [hX]; exact cell_new (by simp) rfl
  clear hX
  have k0 : ∀ W, Below w1.heap.size w1 W → W.cell? ⟨w.heap.size, 0, none⟩ = some (.int .i64 L.n) := fun _ h => kold h K0.out
  have k1 : ∀ W, Below w1.heap.size w1 W → W.cell? ⟨w.heap.size, 1, none⟩ = some (.int .i64 L.d) := fun _ h => kold h K1.out
  have k2 : ∀ W, Below w1.heap.size w1 W → W.cell? ⟨w.heap.size + 1, 0, none⟩ = some (.int .i64 A.n) := fun _ h => kold h K2.out
  have k3 : ∀ W, Below w1.heap.size w1 W → W.cell? ⟨w.heap.size + 1, 1, none⟩ = some (.int .i64 A.d) := fun _ h => kold h K3.out
  have k4 : ∀ W, Below w1.heap.size w1 W → W.cell? ⟨w.heap.size + 1 + 1, 0, none⟩ = some (.int .i64 B.n) := fun _ h => kold h K4.out
  have k5 : ∀ W, Below w1.heap.size w1 W → W.cell? ⟨w.heap.size + 1 + 1, 1, none⟩ = some (.int .i64 B.d) := fun _ h => kold h K5.out
  have hR0 : Below w1.heap.size w1 w1 := Below.refl _ _
  go_wp2_with fail
  go_cut [7] (fun p wx => ∃ k : Nat, p = .pointer (some ⟨k, 0, none⟩) ∧ w1.heap.size ≤ k ∧ k < wx.heap.size ∧ Below w1.heap.size w1 wx ∧ wx.cell? ⟨k, 0, none⟩ = some (.int .i64 c) ∧ wx.cell? ⟨k, 1, none⟩ = some (.int .i64 a.n) ∧ wx.cell? ⟨k, 2, none⟩ = some (.int .i64 a.d) ∧ wx.cell? ⟨k, 3, none⟩ = some (.int .i64 b.n) ∧ wx.cell? ⟨k, 4, none⟩ = some (.int .i64 b.d) ∧ wx.cell? ⟨k, 5, none⟩ = some (.int .i64 f.n) ∧ wx.cell? ⟨k, 6, none⟩ = some (.int .i64 f.d) ∧ wx.cell? ⟨k, 7, none⟩ = some (.bool st))
  case first =>
    go_region_held3 (fun W => Below w1.heap.size w1 W) (go_grown) (first | (go_at_call_of 36 L.n; refine (toFrac_any L.n L.d _).mono ?_; rintro e wz ⟨rfl, hb1⟩; have hs1 := hb1.size; (try simp at hs1); have hR1 : Below w1.heap.size w1 wz := (by refine box_step ?_ hb1 (by go_size); go_grown); (first | (have hZ := box_step hZ hb1 (Nat.le_refl _)) | (have hZ := hb1)); obtain ⟨ho1, hf1, hz1⟩ := olds' hZ) | (go_at_call_of 36 A.n; refine (toFrac_any A.n A.d _).mono ?_; rintro e wz ⟨rfl, hb1⟩; have hs1 := hb1.size; (try simp at hs1); have hR1 : Below w1.heap.size w1 wz := (by refine box_step ?_ hb1 (by go_size); go_grown); (first | (have hZ := box_step hZ hb1 (Nat.le_refl _)) | (have hZ := hb1)); obtain ⟨ho1, hf1, hz1⟩ := olds' hZ) | (go_at_call_of 36 B.n; refine (toFrac_any B.n B.d _).mono ?_; rintro e wz ⟨rfl, hb1⟩; have hs1 := hb1.size; (try simp at hs1); have hR1 : Below w1.heap.size w1 wz := (by refine box_step ?_ hb1 (by go_size); go_grown); (first | (have hZ := box_step hZ hb1 (Nat.le_refl _)) | (have hZ := hb1)); obtain ⟨ho1, hf1, hz1⟩ := olds' hZ) | (go_at_call 19; refine (SV.out _).mono ?_; rintro e wz ⟨rfl, hb1⟩; have hs1 := hb1.size; (try simp at hs1); have hR1 : Below w1.heap.size w1 wz := (by refine box_step ?_ hb1 (by go_size); go_grown); (first | (have hZ := box_step hZ hb1 (Nat.le_refl _)) | (have hZ := hb1)); obtain ⟨ho1, hf1, hz1⟩ := olds' hZ))
    all_goals
      go_wp2_with fail
      go_meet
      case rel =>
        refine ⟨_, rfl, ?_, ?_, ?_, ?_, ?_, ?_, ?_, ?_, ?_, ?_, ?_⟩
        · omega
        · simp [World.setCell] <;> omega
        · go_grown
        · go_simp
        · go_simp
        · go_simp
        · go_simp
        · go_simp
        · go_simp
        · go_simp
        · go_simp
  case rest =>
    obtain ⟨b2, rfl, hk1, hk2, hB, d0, d1, d2, d3, d4, d5, d6, d7⟩ := hcut
    clear k0 k1 k2 k3 k4 k5 hR0
    obtain ⟨w2, hv⟩ : ∃ v, v = wc := ⟨_, rfl⟩
    subst hv
    have HO : Hid (Below w.heap.size w w2) := box_step HO.out hB (by first | exact Nat.le_refl _ | exact HO.out.size)
    have K6 : Hid (w2.cell? ⟨w.heap.size, 0, none⟩ = some (.int .i64 L.n)) := kold hB (K0.out)
    have K7 : Hid (w2.cell? ⟨w.heap.size, 1, none⟩ = some (.int .i64 L.d)) := kold hB (K1.out)
    have K8 : Hid (w2.cell? ⟨w.heap.size + 1, 0, none⟩ = some (.int .i64 A.n)) := kold hB (K2.out)
    have K9 : Hid (w2.cell? ⟨w.heap.size + 1, 1, none⟩ = some (.int .i64 A.d)) := kold hB (K3.out)
    have K10 : Hid (w2.cell? ⟨w.heap.size + 1 + 1, 0, none⟩ = some (.int .i64 B.n)) := kold hB (K4.out)
    have K11 : Hid (w2.cell? ⟨w.heap.size + 1 + 1, 1, none⟩ = some (.int .i64 B.d)) := kold hB (K5.out)
    clear K0 K1 K2 K3 K4 K5
    have K12 : Hid (w2.cell? ⟨b2, 0, none⟩ = some (.int .i64 c)) := d0
    have K13 : Hid (w2.cell? ⟨b2, 1, none⟩ = some (.int .i64 a.n)) := d1
    have K14 : Hid (w2.cell? ⟨b2, 2, none⟩ = some (.int .i64 a.d)) := d2
    have K15 : Hid (w2.cell? ⟨b2, 3, none⟩ = some (.int .i64 b.n)) := d3
    have K16 : Hid (w2.cell? ⟨b2, 4, none⟩ = some (.int .i64 b.d)) := d4
    have K17 : Hid (w2.cell? ⟨b2, 5, none⟩ = some (.int .i64 f.n)) := d5
    have K18 : Hid (w2.cell? ⟨b2, 6, none⟩ = some (.int .i64 f.d)) := d6
    have K19 : Hid (w2.cell? ⟨b2, 7, none⟩ = some (.bool st)) := d7
    clear hB hk1 hk2 d0 d1 d2 d3 d4 d5 d6 d7
    go_upto_region 2 with fail
    have k0 : ∀ W, Below w2.heap.size w2 W → W.cell? ⟨w.heap.size, 0, none⟩ = some (.int .i64 L.n) := fun _ h => kold h K6.out
    have k1 : ∀ W, Below w2.heap.size w2 W → W.cell? ⟨w.heap.size, 1, none⟩ = some (.int .i64 L.d) := fun _ h => kold h K7.out
    have k2 : ∀ W, Below w2.heap.size w2 W → W.cell? ⟨w.heap.size + 1, 0, none⟩ = some (.int .i64 A.n) := fun _ h => kold h K8.out
    have k3 : ∀ W, Below w2.heap.size w2 W → W.cell? ⟨w.heap.size + 1, 1, none⟩ = some (.int .i64 A.d) := fun _ h => kold h K9.out
    have k4 : ∀ W, Below w2.heap.size w2 W → W.cell? ⟨w.heap.size + 1 + 1, 0, none⟩ = some (.int .i64 B.n) := fun _ h => kold h K10.out
    have k5 : ∀ W, Below w2.heap.size w2 W → W.cell? ⟨w.heap.size + 1 + 1, 1, none⟩ = some (.int .i64 B.d) := fun _ h => kold h K11.out
    have hR0 : Below w2.heap.size w2 w2 := Below.refl _ _
    go_wp2_with fail
    go_cut [8] (fun p wx => ∃ k : Nat, p = .pointer (some ⟨k, 0, none⟩) ∧ w2.heap.size ≤ k ∧ k < wx.heap.size ∧ Below w2.heap.size w2 wx ∧ wx.cell? ⟨k, 0, none⟩ = some (.int .i64 c) ∧ wx.cell? ⟨k, 1, none⟩ = some (.int .i64 a.n) ∧ wx.cell? ⟨k, 2, none⟩ = some (.int .i64 a.d) ∧ wx.cell? ⟨k, 3, none⟩ = some (.int .i64 b.n) ∧ wx.cell? ⟨k, 4, none⟩ = some (.int .i64 b.d) ∧ wx.cell? ⟨k, 5, none⟩ = some (.int .i64 f.n) ∧ wx.cell? ⟨k, 6, none⟩ = some (.int .i64 f.d) ∧ wx.cell? ⟨k, 7, none⟩ = some (.bool st))
    case first =>
      go_region_held3 (fun W => Below w2.heap.size w2 W) (go_grown) (first | (go_at_call_of 36 L.n; refine (toFrac_any L.n L.d _).mono ?_; rintro e wz ⟨rfl, hb1⟩; have hs1 := hb1.size; (try simp at hs1); have hR1 : Below w2.heap.size w2 wz := (by refine box_step ?_ hb1 (by go_size); go_grown); (first | (have hZ := box_step hZ hb1 (Nat.le_refl _)) | (have hZ := hb1)); obtain ⟨ho1, hf1, hz1⟩ := olds' hZ) | (go_at_call_of 36 A.n; refine (toFrac_any A.n A.d _).mono ?_; rintro e wz ⟨rfl, hb1⟩; have hs1 := hb1.size; (try simp at hs1); have hR1 : Below w2.heap.size w2 wz := (by refine box_step ?_ hb1 (by go_size); go_grown); (first | (have hZ := box_step hZ hb1 (Nat.le_refl _)) | (have hZ := hb1)); obtain ⟨ho1, hf1, hz1⟩ := olds' hZ) | (go_at_call_of 36 B.n; refine (toFrac_any B.n B.d _).mono ?_; rintro e wz ⟨rfl, hb1⟩; have hs1 := hb1.size; (try simp at hs1); have hR1 : Below w2.heap.size w2 wz := (by refine box_step ?_ hb1 (by go_size); go_grown); (first | (have hZ := box_step hZ hb1 (Nat.le_refl _)) | (have hZ := hb1)); obtain ⟨ho1, hf1, hz1⟩ := olds' hZ) | (go_at_call 20; refine (IV.out _).mono ?_; rintro e wz ⟨rfl, hb1⟩; have hs1 := hb1.size; (try simp at hs1); have hR1 : Below w2.heap.size w2 wz := (by refine box_step ?_ hb1 (by go_size); go_grown); (first | (have hZ := box_step hZ hb1 (Nat.le_refl _)) | (have hZ := hb1)); obtain ⟨ho1, hf1, hz1⟩ := olds' hZ))
      all_goals
        go_wp2_with fail
        go_meet
        case rel =>
          refine ⟨_, rfl, ?_, ?_, ?_, ?_, ?_, ?_, ?_, ?_, ?_, ?_, ?_⟩
          · omega
          · simp [World.setCell] <;> omega
          · go_grown
          · go_simp
          · go_simp
          · go_simp
          · go_simp
          · go_simp
          · go_simp
          · go_simp
          · go_simp
    case rest =>
      obtain ⟨b3, rfl, hk1, hk2, hB, d0, d1, d2, d3, d4, d5, d6, d7⟩ := hcut
      clear k0 k1 k2 k3 k4 k5 hR0
      obtain ⟨w3, hv⟩ : ∃ v, v = wc := ⟨_, rfl⟩
      subst hv
      have HO : Hid (Below w.heap.size w w3) := box_step HO.out hB (by first | exact Nat.le_refl _ | exact HO.out.size)
      have K20 : Hid (w3.cell? ⟨w.heap.size, 0, none⟩ = some (.int .i64 L.n)) := kold hB (K6.out)
      have K21 : Hid (w3.cell? ⟨w.heap.size, 1, none⟩ = some (.int .i64 L.d)) := kold hB (K7.out)
      have K22 : Hid (w3.cell? ⟨w.heap.size + 1, 0, none⟩ = some (.int .i64 A.n)) := kold hB (K8.out)
      have K23 : Hid (w3.cell? ⟨w.heap.size + 1, 1, none⟩ = some (.int .i64 A.d)) := kold hB (K9.out)
      have K24 : Hid (w3.cell? ⟨w.heap.size + 1 + 1, 0, none⟩ = some (.int .i64 B.n)) := kold hB (K10.out)
      have K25 : Hid (w3.cell? ⟨w.heap.size + 1 + 1, 1, none⟩ = some (.int .i64 B.d)) := kold hB (K11.out)
      have K26 : Hid (w3.cell? ⟨b2, 0, none⟩ = some (.int .i64 c)) := kold hB (K12.out)
      have K27 : Hid (w3.cell? ⟨b2, 1, none⟩ = some (.int .i64 a.n)) := kold hB (K13.out)
      have K28 : Hid (w3.cell? ⟨b2, 2, none⟩ = some (.int .i64 a.d)) := kold hB (K14.out)
      have K29 : Hid (w3.cell? ⟨b2, 3, none⟩ = some (.int .i64 b.n)) := kold hB (K15.out)
      have K30 : Hid (w3.cell? ⟨b2, 4, none⟩ = some (.int .i64 b.d)) := kold hB (K16.out)
      have K31 : Hid (w3.cell? ⟨b2, 5, none⟩ = some (.int .i64 f.n)) := kold hB (K17.out)
      have K32 : Hid (w3.cell? ⟨b2, 6, none⟩ = some (.int .i64 f.d)) := kold hB (K18.out)
      have K33 : Hid (w3.cell? ⟨b2, 7, none⟩ = some (.bool st)) := kold hB (K19.out)
      clear K6 K7 K8 K9 K10 K11 K12 K13 K14 K15 K16 K17 K18 K19
      have K34 : Hid (w3.cell? ⟨b3, 0, none⟩ = some (.int .i64 c)) := d0
      have K35 : Hid (w3.cell? ⟨b3, 1, none⟩ = some (.int .i64 a.n)) := d1
      have K36 : Hid (w3.cell? ⟨b3, 2, none⟩ = some (.int .i64 a.d)) := d2
      have K37 : Hid (w3.cell? ⟨b3, 3, none⟩ = some (.int .i64 b.n)) := d3
      have K38 : Hid (w3.cell? ⟨b3, 4, none⟩ = some (.int .i64 b.d)) := d4
      have K39 : Hid (w3.cell? ⟨b3, 5, none⟩ = some (.int .i64 f.n)) := d5
      have K40 : Hid (w3.cell? ⟨b3, 6, none⟩ = some (.int .i64 f.d)) := d6
      have K41 : Hid (w3.cell? ⟨b3, 7, none⟩ = some (.bool st)) := d7
      clear hB hk1 hk2 d0 d1 d2 d3 d4 d5 d6 d7
      have c6 := K26.out
      have c7 := K27.out
      have c8 := K28.out
      have c9 := K29.out
      have c10 := K30.out
      have c11 := K31.out
      have c12 := K32.out
      have c13 := K33.out
      have c14 := K34.out
      have c15 := K35.out
      have c16 := K36.out
      have c17 := K37.out
      have c18 := K38.out
      have c19 := K39.out
      have c20 := K40.out
      have c21 := K41.out
      go_wp2_with fail
      refine (eqCav_same c a b f st _).mono ?_
      rintro e w4 ⟨rfl, hb⟩
      clear c6 c7 c8 c9 c10 c11 c12 c13 c14 c15 c16 c17 c18 c19 c20 c21
      have HO : Hid (Below w.heap.size w w4) := by have h := HO.out; have hs := h.size; refine box_step ?_ hb (by first | exact hs | (simp <;> omega)); go_grown
      have K42 : Hid (w4.cell? ⟨w.heap.size, 0, none⟩ = some (.int .i64 L.n)) := kold hb (K20.out)
      have K43 : Hid (w4.cell? ⟨w.heap.size, 1, none⟩ = some (.int .i64 L.d)) := kold hb (K21.out)
      have K44 : Hid (w4.cell? ⟨w.heap.size + 1, 0, none⟩ = some (.int .i64 A.n)) := kold hb (K22.out)
      have K45 : Hid (w4.cell? ⟨w.heap.size + 1, 1, none⟩ = some (.int .i64 A.d)) := kold hb (K23.out)
      have K46 : Hid (w4.cell? ⟨w.heap.size + 1 + 1, 0, none⟩ = some (.int .i64 B.n)) := kold hb (K24.out)
      have K47 : Hid (w4.cell? ⟨w.heap.size + 1 + 1, 1, none⟩ = some (.int .i64 B.d)) := kold hb (K25.out)
      have K48 : Hid (w4.cell? ⟨b2, 0, none⟩ = some (.int .i64 c)) := kold hb (K26.out)
      have K49 : Hid (w4.cell? ⟨b2, 1, none⟩ = some (.int .i64 a.n)) := kold hb (K27.out)
      have K50 : Hid (w4.cell? ⟨b2, 2, none⟩ = some (.int .i64 a.d)) := kold hb (K28.out)
      have K51 : Hid (w4.cell? ⟨b2, 3, none⟩ = some (.int .i64 b.n)) := kold hb (K29.out)
      have K52 : Hid (w4.cell? ⟨b2, 4, none⟩ = some (.int .i64 b.d)) := kold hb (K30.out)
      have K53 : Hid (w4.cell? ⟨b2, 5, none⟩ = some (.int .i64 f.n)) := kold hb (K31.out)
      have K54 : Hid (w4.cell? ⟨b2, 6, none⟩ = some (.int .i64 f.d)) := kold hb (K32.out)
      have K55 : Hid (w4.cell? ⟨b2, 7, none⟩ = some (.bool st)) := kold hb (K33.out)
      have K56 : Hid (w4.cell? ⟨b3, 0, none⟩ = some (.int .i64 c)) := kold hb (K34.out)
      have K57 : Hid (w4.cell? ⟨b3, 1, none⟩ = some (.int .i64 a.n)) := kold hb (K35.out)
      have K58 : Hid (w4.cell? ⟨b3, 2, none⟩ = some (.int .i64 a.d)) := kold hb (K36.out)
      have K59 : Hid (w4.cell? ⟨b3, 3, none⟩ = some (.int .i64 b.n)) := kold hb (K37.out)
      have K60 : Hid (w4.cell? ⟨b3, 4, none⟩ = some (.int .i64 b.d)) := kold hb (K38.out)
      have K61 : Hid (w4.cell? ⟨b3, 5, none⟩ = some (.int .i64 f.n)) := kold hb (K39.out)
      have K62 : Hid (w4.cell? ⟨b3, 6, none⟩ = some (.int .i64 f.d)) := kold hb (K40.out)
      have K63 : Hid (w4.cell? ⟨b3, 7, none⟩ = some (.bool st)) := kold hb (K41.out)
      clear K20 K21 K22 K23 K24 K25 K26 K27 K28 K29 K30 K31 K32 K33 K34 K35 K36 K37 K38 K39 K40 K41
      clear hb
      have c0 := K42.out
      have c1 := K43.out
      have c2 := K44.out
      have c3 := K45.out
      have c4 := K46.out
      have c5 := K47.out
      have c6 := K48.out
      have c7 := K49.out
      have c8 := K50.out
      have c9 := K51.out
      have c10 := K52.out
      have c11 := K53.out
      have c12 := K54.out
      have c13 := K55.out
      have c14 := K56.out
      have c15 := K57.out
      have c16 := K58.out
      have c17 := K59.out
      have c18 := K60.out
      have c19 := K61.out
      have c20 := K62.out
      have c21 := K63.out
      go_wp2
      go_ret
      refine ⟨by first | rfl | simp, ?_⟩
      have h := HO.out
      have hsz := h.size
      go_grown

set_option maxRecDepth 100000 in
theorem lifted (os : Os) (started : os.Started) (H : Type) (enc : TypeId × Value → H) :
    ReturnsInHanded {} Try.checked os 8 .any (Rows.fnExactCavityOfSpec.pre6 enc Try.prog Try.f8 Rows.fnExactCavityOfRow.domain false) (Rows.fnExactCavityOfSpec.post enc Try.prog Try.f8 false true false false) := by
  refine returnsInHanded_of_change (C := Try.checked) own started (by kernel_rfl) Try.func8
    (ChangeSpec.witness6 (enc := enc) (C := Try.checked) false ⟨#[], #[.agg #[.int .i64 0, .int .i64 0], .agg #[.int .i64 0, .int .i64 0], .agg #[.int .i64 0, .int .i64 0]], []⟩ 8 (by kernel_rfl) (by kernel_rfl) (by kernel_rfl) (by kernel_rfl)) ?_
  intro W base args ds gs before hval0 hW hcnd _
  have hval : ∀ (j : Nat) t v, Try.f8.params[j]? = some t → args[j]? = some v → Value.okWide Try.prog W .any base t v := hval0
  have hW' := hW
  obtain ⟨p, q, hA0, hV, rfl, hfz, hnd⟩ := hW
  have hA : DataW.TrodAll enc Try.prog W 0 (fun _ => true) true Try.f8.params.toList args.toList ds p := hA0
  rw [Try.params8] at hA hval
  obtain ⟨v0, vs0, d0, ds0, p0, q0, hargs, rfl, rfl, h0, r0⟩ := trodAll_cons hA
  obtain ⟨v1, vs1, d1, ds1, p1, q1, rfl, rfl, rfl, h1, r1⟩ := trodAll_cons r0
  obtain ⟨v2, vs2, d2, ds2, p2, q2, rfl, rfl, rfl, h2, r2⟩ := trodAll_cons r1
  obtain ⟨rfl, rfl, rfl⟩ := trodAll_nil r2
  obtain rfl : args = #[v0, v1, v2] := by cases args; simp_all
  obtain ⟨rfl, rfl⟩ := trodVars_none hV
  have k0 := h0
  have lt0 : ∀ x ∈ p0, x.block < W.heap.size := by obtain ⟨m, hm⟩ := k0; exact DataW.trod_lt m _ _ _ hm
  obtain ⟨n0, m0, rfl, wn0, wm0⟩ := open_frac (hval 0 66 v0 rfl rfl) h0
  have k1 := h1
  have lt1 : ∀ x ∈ p1, x.block < W.heap.size := by obtain ⟨m, hm⟩ := k1; exact DataW.trod_lt m _ _ _ hm
  obtain ⟨n1, m1, rfl, wn1, wm1⟩ := open_frac (hval 1 66 v1 rfl rfl) h1
  have k2 := h2
  have lt2 : ∀ x ∈ p2, x.block < W.heap.size := by obtain ⟨m, hm⟩ := k2; exact DataW.trod_lt m _ _ _ hm
  obtain ⟨n2, m2, rfl, wn2, wm2⟩ := open_frac (hval 2 66 v2 rfl rfl) h2
  clear hA0 hval0
  refine (walk ⟨n0, m0⟩ ⟨n1, m1⟩ ⟨n2, m2⟩ W).mono fun e W' ⟨he, bel⟩ => ?_
  subst he
  exact ⟨_, rfl, _, _, _, [], _, [], hW', trodAll_mk1 (shut_bool Try.underlying4 _), (trodAll_cons_mk (Below.trod laidOut (by kernel_rfl) (of_decide_eq_true (by kernel_rfl)) k0 bel lt0) (trodAll_cons_mk (Below.trod laidOut (by kernel_rfl) (of_decide_eq_true (by kernel_rfl)) k1 bel lt1) (trodAll_cons_mk (Below.trod laidOut (by kernel_rfl) (of_decide_eq_true (by kernel_rfl)) k2 bel lt2) trodAll_mk0))), rfl, bel.frame _, fun h => by cases h⟩

theorem over : Rows.fnExactCavityOfRow.holds Try.pinned (OpenSpec.ofChange Rows.fnExactCavityOfSpec) :=
  OpenClaim.holds_of_wide 8 Try.f8 rfl rfl rfl rfl rfl rfl rfl ⟨rfl, rfl, rfl, rfl, rfl⟩ rfl rfl rfl rfl rfl (by kernel_rfl) Try.func8 (by kernel_rfl)
    (of_decide_eq_true (by kernel_rfl)) (by unfold Func.isWrapper; first | (rw [if_pos (by decide +kernel)]; kernel_rfl) | (rw [if_neg (by decide +kernel)]; exact ⟨rfl, rfl⟩))
    (fun os started H enc _ => lifted os started H enc)
end Go.Proofs.Ytkkajcdjkfbcgaa.LawCavityOf
namespace Go.Proofs.Ytkkajcdjkfbcgaa
theorem cavityOf_holds : Rows.FnExactCavityOfSaid := LawCavityOf.over
#print axioms cavityOf_holds
end Go.Proofs.Ytkkajcdjkfbcgaa
