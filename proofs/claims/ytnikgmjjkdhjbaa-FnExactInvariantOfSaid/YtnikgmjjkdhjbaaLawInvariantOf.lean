/- At every two rays that come in, right or not, the program's InvariantOf answers as the specification, field by field; nothing that was there is changed. -/
import Derived.Test.YtnikgmjjkdhjbaaOz
import Derived.Test.YtnikgmjjkdhjbaaDt
import Derived.Test.YtnikgmjjkdhjbaaRows
import Derived.Deep.RegionHeld3
import Derived.Deep.DeepCutAuto
namespace Go.Proofs.Ytnikgmjjkdhjbaa.LawInvariantOf
open Go.ChangeShapes Go.WideShapes Go.ChangeAt Go.RowKit Go.Joins
set_option linter.unusedVariables false
set_option linter.unusedSimpArgs false
set_option maxRecDepth 20000 in
set_option maxHeartbeats 3200000 in
theorem walk (r s : Ry) (w : World) : Calls Try.prog 10 #[.agg #[.int .i64 r.Y.n, .int .i64 r.Y.d, .int .i64 r.U.n, .int .i64 r.U.d], .agg #[.int .i64 s.Y.n, .int .i64 s.Y.d, .int .i64 s.U.n, .int .i64 s.U.d]] w fun e w' => e = .returned (.bool true) ∧ Below w.heap.size w w' := by
  go_enter Try.func10, Try.ntmps10
  go_wp2_with fail
  obtain ⟨w1, hX⟩ : ∃ X, X = ((w.alloc (.cells #[.int .i64 r.Y.n, .int .i64 r.Y.d, .int .i64 r.U.n, .int .i64 r.U.d] 64)).alloc (.cells #[.int .i64 s.Y.n, .int .i64 s.Y.d, .int .i64 s.U.n, .int .i64 s.U.d] 64)) := ⟨_, rfl⟩
  rw [← hX]
  have HO : Hid (Below w.heap.size w w1) := by show Below w.heap.size w w1; rw [hX]; go_grown
  have K0 : Hid (w1.cell? ⟨w.heap.size, 0, none⟩ = some (.int .i64 r.Y.n)) := by show w1.cell? ⟨w.heap.size, 0, none⟩ = some (.int .i64 r.Y.n); rw [hX]; exact cell_old (cell_new (by simp) rfl)
  have K1 : Hid (w1.cell? ⟨w.heap.size, 1, none⟩ = some (.int .i64 r.Y.d)) := by show w1.cell? ⟨w.heap.size, 1, none⟩ = some (.int .i64 r.Y.d); rw [hX]; exact cell_old (cell_new (by simp) rfl)
  have K2 : Hid (w1.cell? ⟨w.heap.size, 2, none⟩ = some (.int .i64 r.U.n)) := by show w1.cell? ⟨w.heap.size, 2, none⟩ = some (.int .i64 r.U.n); rw [hX]; exact cell_old (cell_new (by simp) rfl)
  have K3 : Hid (w1.cell? ⟨w.heap.size, 3, none⟩ = some (.int .i64 r.U.d)) := by show w1.cell? ⟨w.heap.size, 3, none⟩ = some (.int .i64 r.U.d); rw [hX]; exact cell_old (cell_new (by simp) rfl)
  have K4 : Hid (w1.cell? ⟨w.heap.size + 1, 0, none⟩ = some (.int .i64 s.Y.n)) := by show w1.cell? ⟨w.heap.size + 1, 0, none⟩ = some (.int .i64 s.Y.n); rw [hX]; exact cell_new (by simp) rfl
  have K5 : Hid (w1.cell? ⟨w.heap.size + 1, 1, none⟩ = some (.int .i64 s.Y.d)) := by show w1.cell? ⟨w.heap.size + 1, 1, none⟩ = some (.int .i64 s.Y.d); rw [hX]; exact cell_new (by simp) rfl
  have K6 : Hid (w1.cell? ⟨w.heap.size + 1, 2, none⟩ = some (.int .i64 s.U.n)) := by show w1.cell? ⟨w.heap.size + 1, 2, none⟩ = some (.int .i64 s.U.n); rw [hX]; exact cell_new (by simp) rfl
  have K7 : Hid (w1.cell? ⟨w.heap.size + 1, 3, none⟩ = some (.int .i64 s.U.d)) := by show w1.cell? ⟨w.heap.size + 1, 3, none⟩ = some (.int .i64 s.U.d); rw [hX]; exact cell_new (by simp) rfl
  clear hX
  have k0 : ∀ W, Below w1.heap.size w1 W → W.cell? ⟨w.heap.size, 0, none⟩ = some (.int .i64 r.Y.n) := fun _ h => kold h K0.out
  have k1 : ∀ W, Below w1.heap.size w1 W → W.cell? ⟨w.heap.size, 1, none⟩ = some (.int .i64 r.Y.d) := fun _ h => kold h K1.out
  have k2 : ∀ W, Below w1.heap.size w1 W → W.cell? ⟨w.heap.size, 2, none⟩ = some (.int .i64 r.U.n) := fun _ h => kold h K2.out
  have k3 : ∀ W, Below w1.heap.size w1 W → W.cell? ⟨w.heap.size, 3, none⟩ = some (.int .i64 r.U.d) := fun _ h => kold h K3.out
  have k4 : ∀ W, Below w1.heap.size w1 W → W.cell? ⟨w.heap.size + 1, 0, none⟩ = some (.int .i64 s.Y.n) := fun _ h => kold h K4.out
  have k5 : ∀ W, Below w1.heap.size w1 W → W.cell? ⟨w.heap.size + 1, 1, none⟩ = some (.int .i64 s.Y.d) := fun _ h => kold h K5.out
  have k6 : ∀ W, Below w1.heap.size w1 W → W.cell? ⟨w.heap.size + 1, 2, none⟩ = some (.int .i64 s.U.n) := fun _ h => kold h K6.out
  have k7 : ∀ W, Below w1.heap.size w1 W → W.cell? ⟨w.heap.size + 1, 3, none⟩ = some (.int .i64 s.U.d) := fun _ h => kold h K7.out
  have hR0 : Below w1.heap.size w1 w1 := Below.refl _ _
  go_wp2_with fail
  go_cut [5] (fun p wx => ∃ k : Nat, p = .pointer (some ⟨k, 0, none⟩) ∧ w1.heap.size ≤ k ∧ k < wx.heap.size ∧ Below w1.heap.size w1 wx ∧ wx.cell? ⟨k, 0, none⟩ = some (.int .i64 (apC r.Y s.U s.Y r.U)) ∧ wx.cell? ⟨k, 1, none⟩ = some (.int .i64 (sel (apC r.Y s.U s.Y r.U) (apQ r.Y s.U s.Y r.U)).n) ∧ wx.cell? ⟨k, 2, none⟩ = some (.int .i64 (sel (apC r.Y s.U s.Y r.U) (apQ r.Y s.U s.Y r.U)).d))
  case first =>
    go_region_held3 (fun W => Below w1.heap.size w1 W) (go_grown) (first | (go_at_call 36; refine (toRay _ _).mono ?_; rintro e wz ⟨rfl, hb1⟩; have hs1 := hb1.size; (try simp at hs1); have hR1 : Below w1.heap.size w1 wz := (by refine box_step ?_ hb1 (by go_size); go_grown); (first | (have hZ := box_step hZ hb1 (Nat.le_refl _)) | (have hZ := hb1)); obtain ⟨ho1, hf1, hz1⟩ := olds' hZ) | (go_at_call 42; refine (sinv _ _ _).mono ?_; rintro e wz ⟨rfl, hb1⟩; have hs1 := hb1.size; (try simp at hs1); have hR1 : Below w1.heap.size w1 wz := (by refine box_step ?_ hb1 (by go_size); go_grown); (first | (have hZ := box_step hZ hb1 (Nat.le_refl _)) | (have hZ := hb1)); obtain ⟨ho1, hf1, hz1⟩ := olds' hZ))
    all_goals
      go_wp2_with fail
      go_meet
      case rel =>
        refine ⟨_, rfl, ?_, ?_, ?_, ?_, ?_, ?_⟩
        · omega
        · simp [World.setCell] <;> omega
        · go_grown
        · go_simp
        · go_simp
        · go_simp
  case rest =>
    obtain ⟨b2, rfl, hk1, hk2, hB, d0, d1, d2⟩ := hcut
    clear k0 k1 k2 k3 k4 k5 k6 k7 hR0
    obtain ⟨w2, hv⟩ : ∃ v, v = wc := ⟨_, rfl⟩
    subst hv
    have HO : Hid (Below w.heap.size w w2) := box_step HO.out hB (by first | exact Nat.le_refl _ | exact HO.out.size)
    have K8 : Hid (w2.cell? ⟨w.heap.size, 0, none⟩ = some (.int .i64 r.Y.n)) := kold hB (K0.out)
    have K9 : Hid (w2.cell? ⟨w.heap.size, 1, none⟩ = some (.int .i64 r.Y.d)) := kold hB (K1.out)
    have K10 : Hid (w2.cell? ⟨w.heap.size, 2, none⟩ = some (.int .i64 r.U.n)) := kold hB (K2.out)
    have K11 : Hid (w2.cell? ⟨w.heap.size, 3, none⟩ = some (.int .i64 r.U.d)) := kold hB (K3.out)
    have K12 : Hid (w2.cell? ⟨w.heap.size + 1, 0, none⟩ = some (.int .i64 s.Y.n)) := kold hB (K4.out)
    have K13 : Hid (w2.cell? ⟨w.heap.size + 1, 1, none⟩ = some (.int .i64 s.Y.d)) := kold hB (K5.out)
    have K14 : Hid (w2.cell? ⟨w.heap.size + 1, 2, none⟩ = some (.int .i64 s.U.n)) := kold hB (K6.out)
    have K15 : Hid (w2.cell? ⟨w.heap.size + 1, 3, none⟩ = some (.int .i64 s.U.d)) := kold hB (K7.out)
    clear K0 K1 K2 K3 K4 K5 K6 K7
    have K16 : Hid (w2.cell? ⟨b2, 0, none⟩ = some (.int .i64 (apC r.Y s.U s.Y r.U))) := d0
    have K17 : Hid (w2.cell? ⟨b2, 1, none⟩ = some (.int .i64 (sel (apC r.Y s.U s.Y r.U) (apQ r.Y s.U s.Y r.U)).n)) := d1
    have K18 : Hid (w2.cell? ⟨b2, 2, none⟩ = some (.int .i64 (sel (apC r.Y s.U s.Y r.U) (apQ r.Y s.U s.Y r.U)).d)) := d2
    clear hB hk1 hk2 d0 d1 d2
    have k0 : ∀ W, Below w2.heap.size w2 W → W.cell? ⟨w.heap.size, 0, none⟩ = some (.int .i64 r.Y.n) := fun _ h => kold h K8.out
    have k1 : ∀ W, Below w2.heap.size w2 W → W.cell? ⟨w.heap.size, 1, none⟩ = some (.int .i64 r.Y.d) := fun _ h => kold h K9.out
    have k2 : ∀ W, Below w2.heap.size w2 W → W.cell? ⟨w.heap.size, 2, none⟩ = some (.int .i64 r.U.n) := fun _ h => kold h K10.out
    have k3 : ∀ W, Below w2.heap.size w2 W → W.cell? ⟨w.heap.size, 3, none⟩ = some (.int .i64 r.U.d) := fun _ h => kold h K11.out
    have k4 : ∀ W, Below w2.heap.size w2 W → W.cell? ⟨w.heap.size + 1, 0, none⟩ = some (.int .i64 s.Y.n) := fun _ h => kold h K12.out
    have k5 : ∀ W, Below w2.heap.size w2 W → W.cell? ⟨w.heap.size + 1, 1, none⟩ = some (.int .i64 s.Y.d) := fun _ h => kold h K13.out
    have k6 : ∀ W, Below w2.heap.size w2 W → W.cell? ⟨w.heap.size + 1, 2, none⟩ = some (.int .i64 s.U.n) := fun _ h => kold h K14.out
    have k7 : ∀ W, Below w2.heap.size w2 W → W.cell? ⟨w.heap.size + 1, 3, none⟩ = some (.int .i64 s.U.d) := fun _ h => kold h K15.out
    have hR0 : Below w2.heap.size w2 w2 := Below.refl _ _
    go_wp2_with fail
    go_cut [6] (fun p wx => ∃ k : Nat, p = .pointer (some ⟨k, 0, none⟩) ∧ w2.heap.size ≤ k ∧ k < wx.heap.size ∧ Below w2.heap.size w2 wx ∧ wx.cell? ⟨k, 0, none⟩ = some (.int .i64 (apC r.Y s.U s.Y r.U)) ∧ wx.cell? ⟨k, 1, none⟩ = some (.int .i64 (sel (apC r.Y s.U s.Y r.U) (apQ r.Y s.U s.Y r.U)).n) ∧ wx.cell? ⟨k, 2, none⟩ = some (.int .i64 (sel (apC r.Y s.U s.Y r.U) (apQ r.Y s.U s.Y r.U)).d))
    case first =>
      go_region_held3 (fun W => Below w2.heap.size w2 W) (go_grown) (first | (go_at_call 36; refine (toRay _ _).mono ?_; rintro e wz ⟨rfl, hb1⟩; have hs1 := hb1.size; (try simp at hs1); have hR1 : Below w2.heap.size w2 wz := (by refine box_step ?_ hb1 (by go_size); go_grown); (first | (have hZ := box_step hZ hb1 (Nat.le_refl _)) | (have hZ := hb1)); obtain ⟨ho1, hf1, hz1⟩ := olds' hZ) | (go_at_call 43; refine (iinv _ _ _).mono ?_; rintro e wz ⟨rfl, hb1⟩; have hs1 := hb1.size; (try simp at hs1); have hR1 : Below w2.heap.size w2 wz := (by refine box_step ?_ hb1 (by go_size); go_grown); (first | (have hZ := box_step hZ hb1 (Nat.le_refl _)) | (have hZ := hb1)); obtain ⟨ho1, hf1, hz1⟩ := olds' hZ))
      all_goals
        go_wp2_with fail
        go_meet
        case rel =>
          refine ⟨_, rfl, ?_, ?_, ?_, ?_, ?_, ?_⟩
          · omega
          · simp [World.setCell] <;> omega
          · go_grown
          · go_simp
          · go_simp
          · go_simp
    case rest =>
      obtain ⟨b3, rfl, hk1, hk2, hB, d0, d1, d2⟩ := hcut
      clear k0 k1 k2 k3 k4 k5 k6 k7 hR0
      obtain ⟨w3, hv⟩ : ∃ v, v = wc := ⟨_, rfl⟩
      subst hv
      have HO : Hid (Below w.heap.size w w3) := box_step HO.out hB (by first | exact Nat.le_refl _ | exact HO.out.size)
      have K19 : Hid (w3.cell? ⟨w.heap.size, 0, none⟩ = some (.int .i64 r.Y.n)) := kold hB (K8.out)
      have K20 : Hid (w3.cell? ⟨w.heap.size, 1, none⟩ = some (.int .i64 r.Y.d)) := kold hB (K9.out)
      have K21 : Hid (w3.cell? ⟨w.heap.size, 2, none⟩ = some (.int .i64 r.U.n)) := kold hB (K10.out)
      have K22 : Hid (w3.cell? ⟨w.heap.size, 3, none⟩ = some (.int .i64 r.U.d)) := kold hB (K11.out)
      have K23 : Hid (w3.cell? ⟨w.heap.size + 1, 0, none⟩ = some (.int .i64 s.Y.n)) := kold hB (K12.out)
      have K24 : Hid (w3.cell? ⟨w.heap.size + 1, 1, none⟩ = some (.int .i64 s.Y.d)) := kold hB (K13.out)
      have K25 : Hid (w3.cell? ⟨w.heap.size + 1, 2, none⟩ = some (.int .i64 s.U.n)) := kold hB (K14.out)
      have K26 : Hid (w3.cell? ⟨w.heap.size + 1, 3, none⟩ = some (.int .i64 s.U.d)) := kold hB (K15.out)
      have K27 : Hid (w3.cell? ⟨b2, 0, none⟩ = some (.int .i64 (apC r.Y s.U s.Y r.U))) := kold hB (K16.out)
      have K28 : Hid (w3.cell? ⟨b2, 1, none⟩ = some (.int .i64 (sel (apC r.Y s.U s.Y r.U) (apQ r.Y s.U s.Y r.U)).n)) := kold hB (K17.out)
      have K29 : Hid (w3.cell? ⟨b2, 2, none⟩ = some (.int .i64 (sel (apC r.Y s.U s.Y r.U) (apQ r.Y s.U s.Y r.U)).d)) := kold hB (K18.out)
      clear K8 K9 K10 K11 K12 K13 K14 K15 K16 K17 K18
      have K30 : Hid (w3.cell? ⟨b3, 0, none⟩ = some (.int .i64 (apC r.Y s.U s.Y r.U))) := d0
      have K31 : Hid (w3.cell? ⟨b3, 1, none⟩ = some (.int .i64 (sel (apC r.Y s.U s.Y r.U) (apQ r.Y s.U s.Y r.U)).n)) := d1
      have K32 : Hid (w3.cell? ⟨b3, 2, none⟩ = some (.int .i64 (sel (apC r.Y s.U s.Y r.U) (apQ r.Y s.U s.Y r.U)).d)) := d2
      clear hB hk1 hk2 d0 d1 d2
      have c8 := K27.out
      have c9 := K28.out
      have c10 := K29.out
      have c11 := K30.out
      have c12 := K31.out
      have c13 := K32.out
      go_wp2_with fail
      refine (eqRes_same _ _ _ _).mono ?_
      rintro e w4 ⟨rfl, hb⟩
      clear c8 c9 c10 c11 c12 c13
      have HO : Hid (Below w.heap.size w w4) := by have h := HO.out; have hs := h.size; refine box_step ?_ hb (by first | exact hs | (simp <;> omega)); go_grown
      have K33 : Hid (w4.cell? ⟨w.heap.size, 0, none⟩ = some (.int .i64 r.Y.n)) := kold hb (K19.out)
      have K34 : Hid (w4.cell? ⟨w.heap.size, 1, none⟩ = some (.int .i64 r.Y.d)) := kold hb (K20.out)
      have K35 : Hid (w4.cell? ⟨w.heap.size, 2, none⟩ = some (.int .i64 r.U.n)) := kold hb (K21.out)
      have K36 : Hid (w4.cell? ⟨w.heap.size, 3, none⟩ = some (.int .i64 r.U.d)) := kold hb (K22.out)
      have K37 : Hid (w4.cell? ⟨w.heap.size + 1, 0, none⟩ = some (.int .i64 s.Y.n)) := kold hb (K23.out)
      have K38 : Hid (w4.cell? ⟨w.heap.size + 1, 1, none⟩ = some (.int .i64 s.Y.d)) := kold hb (K24.out)
      have K39 : Hid (w4.cell? ⟨w.heap.size + 1, 2, none⟩ = some (.int .i64 s.U.n)) := kold hb (K25.out)
      have K40 : Hid (w4.cell? ⟨w.heap.size + 1, 3, none⟩ = some (.int .i64 s.U.d)) := kold hb (K26.out)
      have K41 : Hid (w4.cell? ⟨b2, 0, none⟩ = some (.int .i64 (apC r.Y s.U s.Y r.U))) := kold hb (K27.out)
      have K42 : Hid (w4.cell? ⟨b2, 1, none⟩ = some (.int .i64 (sel (apC r.Y s.U s.Y r.U) (apQ r.Y s.U s.Y r.U)).n)) := kold hb (K28.out)
      have K43 : Hid (w4.cell? ⟨b2, 2, none⟩ = some (.int .i64 (sel (apC r.Y s.U s.Y r.U) (apQ r.Y s.U s.Y r.U)).d)) := kold hb (K29.out)
      have K44 : Hid (w4.cell? ⟨b3, 0, none⟩ = some (.int .i64 (apC r.Y s.U s.Y r.U))) := kold hb (K30.out)
      have K45 : Hid (w4.cell? ⟨b3, 1, none⟩ = some (.int .i64 (sel (apC r.Y s.U s.Y r.U) (apQ r.Y s.U s.Y r.U)).n)) := kold hb (K31.out)
      have K46 : Hid (w4.cell? ⟨b3, 2, none⟩ = some (.int .i64 (sel (apC r.Y s.U s.Y r.U) (apQ r.Y s.U s.Y r.U)).d)) := kold hb (K32.out)
      clear K19 K20 K21 K22 K23 K24 K25 K26 K27 K28 K29 K30 K31 K32
      clear hb
      go_wp2
      go_ret
      refine ⟨by first | rfl | simp, ?_⟩
      have h := HO.out
      have hsz := h.size
      go_grown
set_option maxRecDepth 100000 in
theorem lifted (os : Os) (started : os.Started) (H : Type) (enc : TypeId × Value → H) :
    ReturnsInHanded {} Try.checked os 10 .any (Rows.fnExactInvariantOfSpec.pre6 enc Try.prog Try.f10 Rows.fnExactInvariantOfRow.domain false) (Rows.fnExactInvariantOfSpec.post enc Try.prog Try.f10 false true false false) := by
  refine returnsInHanded_of_change (C := Try.checked) own started (by kernel_rfl) Try.func10
    (ChangeSpec.witness6 (enc := enc) (C := Try.checked) false ⟨#[], #[.agg #[.int .i64 0, .int .i64 0, .int .i64 0, .int .i64 0], .agg #[.int .i64 0, .int .i64 0, .int .i64 0, .int .i64 0]], []⟩ 8 (by kernel_rfl) (by kernel_rfl) (by kernel_rfl) (by kernel_rfl)) ?_
  intro W base args ds gs before hval0 hW hcnd _
  have hval : ∀ (j : Nat) t v, Try.f10.params[j]? = some t → args[j]? = some v → Value.okWide Try.prog W .any base t v := hval0
  have hW' := hW
  obtain ⟨p, q, hA0, hV, rfl, hfz, hnd⟩ := hW
  have hA : DataW.TrodAll enc Try.prog W 0 (fun _ => true) true Try.f10.params.toList args.toList ds p := hA0
  rw [Try.params10] at hA hval
  obtain ⟨v0, vs0, d0, ds0, p0, q0, hargs, rfl, rfl, h0, r0⟩ := trodAll_cons hA
  obtain ⟨v1, vs1, d1, ds1, p1, q1, rfl, rfl, rfl, h1, r1⟩ := trodAll_cons r0
  obtain ⟨rfl, rfl, rfl⟩ := trodAll_nil r1
  obtain rfl : args = #[v0, v1] := by cases args; simp_all
  obtain ⟨rfl, rfl⟩ := trodVars_none hV
  have k0 := h0
  have lt0 : ∀ x ∈ p0, x.block < W.heap.size := by obtain ⟨m, hm⟩ := k0; exact DataW.trod_lt m _ _ _ hm
  obtain ⟨a0, rfl⟩ := open_ray (hval 0 64 v0 rfl rfl) h0
  have k1 := h1
  have lt1 : ∀ x ∈ p1, x.block < W.heap.size := by obtain ⟨m, hm⟩ := k1; exact DataW.trod_lt m _ _ _ hm
  obtain ⟨a1, rfl⟩ := open_ray (hval 1 64 v1 rfl rfl) h1
  clear hA0 hval0
  refine (walk a0 a1 W).mono fun e W' ⟨he, bel⟩ => ?_
  subst he
  exact ⟨_, rfl, _, _, _, [], _, [], hW', trodAll_mk1 (shut_bool Try.underlying4 _), (trodAll_cons_mk (Below.trod laidOut (by kernel_rfl) (of_decide_eq_true (by kernel_rfl)) k0 bel lt0) (trodAll_cons_mk (Below.trod laidOut (by kernel_rfl) (of_decide_eq_true (by kernel_rfl)) k1 bel lt1) trodAll_mk0)), rfl, bel.frame _, fun h => by cases h⟩

theorem over : Rows.fnExactInvariantOfRow.holds Try.pinned (OpenSpec.ofChange Rows.fnExactInvariantOfSpec) :=
  OpenClaim.holds_of_wide 10 Try.f10 rfl rfl rfl rfl rfl rfl rfl ⟨rfl, rfl, rfl, rfl, rfl⟩ rfl rfl rfl rfl rfl (by kernel_rfl) Try.func10 (by kernel_rfl)
    (of_decide_eq_true (by kernel_rfl)) (by unfold Func.isWrapper; first | (rw [if_pos (by decide +kernel)]; kernel_rfl) | (rw [if_neg (by decide +kernel)]; exact ⟨rfl, rfl⟩))
    (fun os started H enc _ => lifted os started H enc)
end Go.Proofs.Ytnikgmjjkdhjbaa.LawInvariantOf
namespace Go.Proofs.Ytnikgmjjkdhjbaa
theorem invariantOf_holds : Rows.FnExactInvariantOfSaid := LawInvariantOf.over
#print axioms invariantOf_holds
end Go.Proofs.Ytnikgmjjkdhjbaa
