/- At every two plates the program answers the specification's product, part by part, all NaNs being one; nothing that was there is changed. -/
import Derived.Test.YtnmkbhallidgaaaTp
import Derived.Test.YtnmkbhallidgaaaZpm
import Derived.Handy
import Derived.Deep.RegionHeld3
import Derived.Deep.DeepCutAuto
namespace Go.Proofs.Ytnmkbhallidgaaa.LawMulPlate
open Go.ChangeShapes Go.WideShapes Go.ChangeAt Go.RowKit Go.Joins Fl
set_option linter.unusedVariables false

set_option maxHeartbeats 6400000 in
theorem walk {a0 a1 a2 a3 a4 a5 a6 a7 b0 b1 b2 b3 b4 b5 b6 b7 : Nat} {p q : P4} (h : Pc a0 a1 a2 a3 a4 a5 a6 a7 p) (k : Pc b0 b1 b2 b3 b4 b5 b6 b7 q) (w : World) :
    Calls Try.prog 13 #[Pv a0 a1 a2 a3 a4 a5 a6 a7, Pv b0 b1 b2 b3 b4 b5 b6 b7] w fun e w' => e = .returned (.bool true) ∧ Below w.heap.size w w' := by
  have hst := st64
  obtain ⟨X, hX⟩ : ∃ X, X = ((w.alloc (.cells #[.float .f64 a0, .float .f64 a1, .float .f64 a2, .float .f64 a3, .float .f64 a4, .float .f64 a5, .float .f64 a6, .float .f64 a7] 52)).alloc (.cells #[.float .f64 b0, .float .f64 b1, .float .f64 b2, .float .f64 b3, .float .f64 b4, .float .f64 b5, .float .f64 b6, .float .f64 b7] 52)) := ⟨_, rfl⟩
  have HX : Hid (Below w.heap.size w X) := by rw [hX]; exact ((Below.refl _ _).alloc (Nat.le_refl _) _).alloc (by simp) _
  have hXs : w.heap.size + 2 ≤ X.heap.size := by rw [hX]; simp
  have hXt : X.heap.size ≤ w.heap.size + 2 := by rw [hX]; simp
  have k0 : ∀ W, Below (w.heap.size + 2) X W → W.cell? ⟨w.heap.size, 0, none⟩ = some (.float .f64 a0) := fun _ h => (h.cell (by simp)).trans (by rw [hX]; exact cell_alloc_old (cell_alloc_new rfl rfl))
  have k1 : ∀ W, Below (w.heap.size + 2) X W → W.cell? ⟨w.heap.size, 1, none⟩ = some (.float .f64 a1) := fun _ h => (h.cell (by simp)).trans (by rw [hX]; exact cell_alloc_old (cell_alloc_new rfl rfl))
  have k2 : ∀ W, Below (w.heap.size + 2) X W → W.cell? ⟨w.heap.size, 2, none⟩ = some (.float .f64 a2) := fun _ h => (h.cell (by simp)).trans (by rw [hX]; exact cell_alloc_old (cell_alloc_new rfl rfl))
  have k3 : ∀ W, Below (w.heap.size + 2) X W → W.cell? ⟨w.heap.size, 3, none⟩ = some (.float .f64 a3) := fun _ h => (h.cell (by simp)).trans (by rw [hX]; exact cell_alloc_old (cell_alloc_new rfl rfl))
  have k4 : ∀ W, Below (w.heap.size + 2) X W → W.cell? ⟨w.heap.size, 4, none⟩ = some (.float .f64 a4) := fun _ h => (h.cell (by simp)).trans (by rw [hX]; exact cell_alloc_old (cell_alloc_new rfl rfl))
  have k5 : ∀ W, Below (w.heap.size + 2) X W → W.cell? ⟨w.heap.size, 5, none⟩ = some (.float .f64 a5) := fun _ h => (h.cell (by simp)).trans (by rw [hX]; exact cell_alloc_old (cell_alloc_new rfl rfl))
  have k6 : ∀ W, Below (w.heap.size + 2) X W → W.cell? ⟨w.heap.size, 6, none⟩ = some (.float .f64 a6) := fun _ h => (h.cell (by simp)).trans (by rw [hX]; exact cell_alloc_old (cell_alloc_new rfl rfl))
  have k7 : ∀ W, Below (w.heap.size + 2) X W → W.cell? ⟨w.heap.size, 7, none⟩ = some (.float .f64 a7) := fun _ h => (h.cell (by simp)).trans (by rw [hX]; exact cell_alloc_old (cell_alloc_new rfl rfl))
  have l0 : ∀ W, Below (w.heap.size + 2) X W → W.cell? ⟨w.heap.size + 1, 0, none⟩ = some (.float .f64 b0) := fun _ h => (h.cell (by simp)).trans (by rw [hX]; exact cell_alloc_new (by simp) rfl)
  have l1 : ∀ W, Below (w.heap.size + 2) X W → W.cell? ⟨w.heap.size + 1, 1, none⟩ = some (.float .f64 b1) := fun _ h => (h.cell (by simp)).trans (by rw [hX]; exact cell_alloc_new (by simp) rfl)
  have l2 : ∀ W, Below (w.heap.size + 2) X W → W.cell? ⟨w.heap.size + 1, 2, none⟩ = some (.float .f64 b2) := fun _ h => (h.cell (by simp)).trans (by rw [hX]; exact cell_alloc_new (by simp) rfl)
  have l3 : ∀ W, Below (w.heap.size + 2) X W → W.cell? ⟨w.heap.size + 1, 3, none⟩ = some (.float .f64 b3) := fun _ h => (h.cell (by simp)).trans (by rw [hX]; exact cell_alloc_new (by simp) rfl)
  have l4 : ∀ W, Below (w.heap.size + 2) X W → W.cell? ⟨w.heap.size + 1, 4, none⟩ = some (.float .f64 b4) := fun _ h => (h.cell (by simp)).trans (by rw [hX]; exact cell_alloc_new (by simp) rfl)
  have l5 : ∀ W, Below (w.heap.size + 2) X W → W.cell? ⟨w.heap.size + 1, 5, none⟩ = some (.float .f64 b5) := fun _ h => (h.cell (by simp)).trans (by rw [hX]; exact cell_alloc_new (by simp) rfl)
  have l6 : ∀ W, Below (w.heap.size + 2) X W → W.cell? ⟨w.heap.size + 1, 6, none⟩ = some (.float .f64 b6) := fun _ h => (h.cell (by simp)).trans (by rw [hX]; exact cell_alloc_new (by simp) rfl)
  have l7 : ∀ W, Below (w.heap.size + 2) X W → W.cell? ⟨w.heap.size + 1, 7, none⟩ = some (.float .f64 b7) := fun _ h => (h.cell (by simp)).trans (by rw [hX]; exact cell_alloc_new (by simp) rfl)
  have hR0 : Below (w.heap.size + 2) X X := Below.refl _ _
  go_enter Try.func13, Try.ntmps13
  go_wp2_with fail
  rw [← hX]
  clear hX
  go_cut [5] (fun pt wx => ∃ k x0 x1 x2 x3 x4 x5 x6 x7 : Nat, pt = .pointer (some ⟨k, 0, none⟩) ∧ w.heap.size + 2 ≤ k ∧ k < wx.heap.size ∧ Below (w.heap.size + 2) X wx ∧ wx.cell? ⟨k, 0, none⟩ = some (.float .f64 x0) ∧ wx.cell? ⟨k, 1, none⟩ = some (.float .f64 x1) ∧ wx.cell? ⟨k, 2, none⟩ = some (.float .f64 x2) ∧ wx.cell? ⟨k, 3, none⟩ = some (.float .f64 x3) ∧ wx.cell? ⟨k, 4, none⟩ = some (.float .f64 x4) ∧ wx.cell? ⟨k, 5, none⟩ = some (.float .f64 x5) ∧ wx.cell? ⟨k, 6, none⟩ = some (.float .f64 x6) ∧ wx.cell? ⟨k, 7, none⟩ = some (.float .f64 x7) ∧ Pc x0 x1 x2 x3 x4 x5 x6 x7 (mulP p q))
  case first =>
    go_region_held (fun W => Below (w.heap.size + 2) X W) (go_grown)
      (first | (go_at_call 45; refine (toP_any _ _ _ _ _ _ _ _ _).mono ?_; rintro e w1 ⟨rfl, hb1⟩; have hs1 := hb1.size; (try simp at hs1); have hR1 : Below (w.heap.size + 2) X w1 := (by refine box_step ?_ hb1 (hXs); go_grown); (first | (have hZ := box_step hZ hb1 (Nat.le_refl _)) | (have hZ := hb1)); obtain ⟨ho1, hf1, hz1⟩ := olds hZ) | (go_at_call 44; refine (sMulP_any (by assumption) (by assumption) _).mono ?_; rintro e w1 ⟨x0, x1, x2, x3, x4, x5, x6, x7, rfl, hc, hb1⟩; have hs1 := hb1.size; (try simp at hs1); have hR1 : Below (w.heap.size + 2) X w1 := (by refine box_step ?_ hb1 (hXs); go_grown); (first | (have hZ := box_step hZ hb1 (Nat.le_refl _)) | (have hZ := hb1)); obtain ⟨ho1, hf1, hz1⟩ := olds hZ))
    all_goals
      go_wp2_with fail
      go_meet
      case rel =>
        refine ⟨_, _, _, _, _, _, _, _, _, rfl, ?_, ?_, ?_, ?_, ?_, ?_, ?_, ?_, ?_, ?_, ?_, hc⟩
        · omega
        · simp [World.setCell] <;> omega
        · go_grown
        · go_simp
        · go_simp
        · go_simp
        · go_simp
        · go_simp
        · go_simp
        · go_simp
        · go_simp
  case rest =>
    obtain ⟨k, x0, x1, x2, x3, x4, x5, x6, x7, rfl, hk1, hk2, hB, c0, c1, c2, c3, c4, c5, c6, c7, hxy⟩ := hcut
    have s0 := k0 _ hB
    have t0 := l0 _ hB
    have s1 := k1 _ hB
    have t1 := l1 _ hB
    have s2 := k2 _ hB
    have t2 := l2 _ hB
    have s3 := k3 _ hB
    have t3 := l3 _ hB
    have s4 := k4 _ hB
    have t4 := l4 _ hB
    have s5 := k5 _ hB
    have t5 := l5 _ hB
    have s6 := k6 _ hB
    have t6 := l6 _ hB
    have s7 := k7 _ hB
    have t7 := l7 _ hB
    have HO : Hid (Below w.heap.size w wc) := Below.trans HX.out (hB.mono (by omega))
    clear k0 k1 k2 k3 k4 k5 k6 k7 l0 l1 l2 l3 l4 l5 l6 l7 hR0 hB hXs hXt
    have k0 : ∀ W, Below wc.heap.size wc W → W.cell? ⟨w.heap.size, 0, none⟩ = some (.float .f64 a0) := fun _ h => old_cell h (by simp; omega) s0
    have l0 : ∀ W, Below wc.heap.size wc W → W.cell? ⟨w.heap.size + 1, 0, none⟩ = some (.float .f64 b0) := fun _ h => old_cell h (by simp; omega) t0
    have k1 : ∀ W, Below wc.heap.size wc W → W.cell? ⟨w.heap.size, 1, none⟩ = some (.float .f64 a1) := fun _ h => old_cell h (by simp; omega) s1
    have l1 : ∀ W, Below wc.heap.size wc W → W.cell? ⟨w.heap.size + 1, 1, none⟩ = some (.float .f64 b1) := fun _ h => old_cell h (by simp; omega) t1
    have k2 : ∀ W, Below wc.heap.size wc W → W.cell? ⟨w.heap.size, 2, none⟩ = some (.float .f64 a2) := fun _ h => old_cell h (by simp; omega) s2
    have l2 : ∀ W, Below wc.heap.size wc W → W.cell? ⟨w.heap.size + 1, 2, none⟩ = some (.float .f64 b2) := fun _ h => old_cell h (by simp; omega) t2
    have k3 : ∀ W, Below wc.heap.size wc W → W.cell? ⟨w.heap.size, 3, none⟩ = some (.float .f64 a3) := fun _ h => old_cell h (by simp; omega) s3
    have l3 : ∀ W, Below wc.heap.size wc W → W.cell? ⟨w.heap.size + 1, 3, none⟩ = some (.float .f64 b3) := fun _ h => old_cell h (by simp; omega) t3
    have k4 : ∀ W, Below wc.heap.size wc W → W.cell? ⟨w.heap.size, 4, none⟩ = some (.float .f64 a4) := fun _ h => old_cell h (by simp; omega) s4
    have l4 : ∀ W, Below wc.heap.size wc W → W.cell? ⟨w.heap.size + 1, 4, none⟩ = some (.float .f64 b4) := fun _ h => old_cell h (by simp; omega) t4
    have k5 : ∀ W, Below wc.heap.size wc W → W.cell? ⟨w.heap.size, 5, none⟩ = some (.float .f64 a5) := fun _ h => old_cell h (by simp; omega) s5
    have l5 : ∀ W, Below wc.heap.size wc W → W.cell? ⟨w.heap.size + 1, 5, none⟩ = some (.float .f64 b5) := fun _ h => old_cell h (by simp; omega) t5
    have k6 : ∀ W, Below wc.heap.size wc W → W.cell? ⟨w.heap.size, 6, none⟩ = some (.float .f64 a6) := fun _ h => old_cell h (by simp; omega) s6
    have l6 : ∀ W, Below wc.heap.size wc W → W.cell? ⟨w.heap.size + 1, 6, none⟩ = some (.float .f64 b6) := fun _ h => old_cell h (by simp; omega) t6
    have k7 : ∀ W, Below wc.heap.size wc W → W.cell? ⟨w.heap.size, 7, none⟩ = some (.float .f64 a7) := fun _ h => old_cell h (by simp; omega) s7
    have l7 : ∀ W, Below wc.heap.size wc W → W.cell? ⟨w.heap.size + 1, 7, none⟩ = some (.float .f64 b7) := fun _ h => old_cell h (by simp; omega) t7
    have hR0 : Below wc.heap.size wc wc := Below.refl _ _
    have C0 : Hid (wc.cell? ⟨k, 0, none⟩ = some (.float .f64 x0)) := c0
    have C1 : Hid (wc.cell? ⟨k, 1, none⟩ = some (.float .f64 x1)) := c1
    have C2 : Hid (wc.cell? ⟨k, 2, none⟩ = some (.float .f64 x2)) := c2
    have C3 : Hid (wc.cell? ⟨k, 3, none⟩ = some (.float .f64 x3)) := c3
    have C4 : Hid (wc.cell? ⟨k, 4, none⟩ = some (.float .f64 x4)) := c4
    have C5 : Hid (wc.cell? ⟨k, 5, none⟩ = some (.float .f64 x5)) := c5
    have C6 : Hid (wc.cell? ⟨k, 6, none⟩ = some (.float .f64 x6)) := c6
    have C7 : Hid (wc.cell? ⟨k, 7, none⟩ = some (.float .f64 x7)) := c7
    clear s0 t0 c0 s1 t1 c1 s2 t2 c2 s3 t3 c3 s4 t4 c4 s5 t5 c5 s6 t6 c6 s7 t7 c7
    obtain ⟨v, hv⟩ : ∃ v, v = wc := ⟨_, rfl⟩
    subst hv
    go_wp2_with fail
    go_cut [6] (fun pt wx => ∃ j x0 x1 x2 x3 x4 x5 x6 x7 : Nat, pt = .pointer (some ⟨j, 0, none⟩) ∧ v.heap.size ≤ j ∧ j < wx.heap.size ∧ Below v.heap.size v wx ∧ wx.cell? ⟨j, 0, none⟩ = some (.float .f64 x0) ∧ wx.cell? ⟨j, 1, none⟩ = some (.float .f64 x1) ∧ wx.cell? ⟨j, 2, none⟩ = some (.float .f64 x2) ∧ wx.cell? ⟨j, 3, none⟩ = some (.float .f64 x3) ∧ wx.cell? ⟨j, 4, none⟩ = some (.float .f64 x4) ∧ wx.cell? ⟨j, 5, none⟩ = some (.float .f64 x5) ∧ wx.cell? ⟨j, 6, none⟩ = some (.float .f64 x6) ∧ wx.cell? ⟨j, 7, none⟩ = some (.float .f64 x7) ∧ Pc x0 x1 x2 x3 x4 x5 x6 x7 (mulP p q))
    case first =>
      go_region_held (fun W => Below v.heap.size v W) (go_grown)
        (first | (go_at_call 45; refine (toP_any _ _ _ _ _ _ _ _ _).mono ?_; rintro e w1 ⟨rfl, hb1⟩; have hs1 := hb1.size; (try simp at hs1); have hR1 : Below (v.heap.size) v w1 := (by refine box_step ?_ hb1 (Nat.le_refl _); go_grown); (first | (have hZ := box_step hZ hb1 (Nat.le_refl _)) | (have hZ := hb1)); obtain ⟨ho1, hf1, hz1⟩ := olds hZ) | (go_at_call 46; refine (iMulP_any (by assumption) (by assumption) _).mono ?_; rintro e w1 ⟨x0, x1, x2, x3, x4, x5, x6, x7, rfl, hc, hb1⟩; have hs1 := hb1.size; (try simp at hs1); have hR1 : Below (v.heap.size) v w1 := (by refine box_step ?_ hb1 (Nat.le_refl _); go_grown); (first | (have hZ := box_step hZ hb1 (Nat.le_refl _)) | (have hZ := hb1)); obtain ⟨ho1, hf1, hz1⟩ := olds hZ))
      all_goals
        go_wp2_with fail
        go_meet
        case rel =>
          refine ⟨_, _, _, _, _, _, _, _, _, rfl, ?_, ?_, ?_, ?_, ?_, ?_, ?_, ?_, ?_, ?_, ?_, hc⟩
          · omega
          · simp [World.setCell] <;> omega
          · go_grown
          · go_simp
          · go_simp
          · go_simp
          · go_simp
          · go_simp
          · go_simp
          · go_simp
          · go_simp
    case rest =>
      obtain ⟨j, y0, y1, y2, y3, y4, y5, y6, y7, rfl, hj1, hj2, hB, d0, d1, d2, d3, d4, d5, d6, d7, hxy'⟩ := hcut
      have c0 := old_cell hB (by simp; omega) C0.out
      have c1 := old_cell hB (by simp; omega) C1.out
      have c2 := old_cell hB (by simp; omega) C2.out
      have c3 := old_cell hB (by simp; omega) C3.out
      have c4 := old_cell hB (by simp; omega) C4.out
      have c5 := old_cell hB (by simp; omega) C5.out
      have c6 := old_cell hB (by simp; omega) C6.out
      have c7 := old_cell hB (by simp; omega) C7.out
      have H2 : Hid (Below w.heap.size w wc) := box_step HO.out hB (Nat.le_refl _)
      clear k0 k1 k2 k3 k4 k5 k6 k7 l0 l1 l2 l3 l4 l5 l6 l7 hR0 hB HO C0 C1 C2 C3 C4 C5 C6 C7
      go_wp2_with fail
      refine (eqP_same hxy' hxy _).mono ?_
      rintro e w3 ⟨rfl, hb3⟩
      have H3 : Below w.heap.size w w3 := box_step H2.out hb3 (Nat.le_refl _)
      clear hb3 H2
      go_wp2
      go_ret
      exact ⟨rfl, H3⟩

set_option maxRecDepth 100000 in
theorem lifted (os : Os) (started : os.Started) (H : Type) (enc : TypeId × Value → H) :
    ReturnsInHanded {} Try.checked os 13 .any (Rows.fnExactMulPlateSpec.pre6 enc Try.prog Try.f13 Rows.fnExactMulPlateRow.domain false) (Rows.fnExactMulPlateSpec.post enc Try.prog Try.f13 false true false false) := by
  refine returnsInHanded_of_change (C := Try.checked) own started (by kernel_rfl) Try.func13
    (ChangeSpec.witness6 (enc := enc) (C := Try.checked) false ⟨#[], #[.agg #[.float .f64 0, .float .f64 0, .float .f64 0, .float .f64 0, .float .f64 0, .float .f64 0, .float .f64 0, .float .f64 0], .agg #[.float .f64 0, .float .f64 0, .float .f64 0, .float .f64 0, .float .f64 0, .float .f64 0, .float .f64 0, .float .f64 0]], []⟩ 8 (by kernel_rfl) (by kernel_rfl) (by kernel_rfl) (by kernel_rfl)) ?_
  intro W base args ds gs before hval0 hW hcnd _
  have hval : ∀ (j : Nat) t v, Try.f13.params[j]? = some t → args[j]? = some v → Value.okWide Try.prog W .any base t v := hval0
  have hW' := hW
  obtain ⟨p, q, hA0, hV, rfl, hfz, hnd⟩ := hW
  have hA : DataW.TrodAll enc Try.prog W 0 (fun _ => true) true Try.f13.params.toList args.toList ds p := hA0
  rw [Try.params13] at hA hval
  obtain ⟨v0, vs0, d0, ds0, p0, q0, hargs, rfl, rfl, h0, r0⟩ := trodAll_cons hA
  obtain ⟨v1, vs1, d1, ds1, p1, q1, rfl, rfl, rfl, h1, r1⟩ := trodAll_cons r0
  obtain ⟨rfl, rfl, rfl⟩ := trodAll_nil r1
  obtain rfl : args = #[v0, v1] := by cases args; simp_all
  obtain ⟨rfl, rfl⟩ := trodVars_none hV
  have k0 := h0
  have lt0 : ∀ x ∈ p0, x.block < W.heap.size := by obtain ⟨m, hm⟩ := k0; exact DataW.trod_lt m _ _ _ hm
  obtain ⟨a0, z0, e0⟩ := open_plate (hval 0 52 v0 rfl rfl) h0
  subst e0
  have k1 := h1
  have lt1 : ∀ x ∈ p1, x.block < W.heap.size := by obtain ⟨m, hm⟩ := k1; exact DataW.trod_lt m _ _ _ hm
  obtain ⟨a1, z1, e1⟩ := open_plate (hval 1 52 v1 rfl rfl) h1
  subst e1
  clear hA0 hval0
  refine (walk z0 z1 W).mono fun e W' ⟨he, bel⟩ => ?_
  subst he
  exact ⟨_, rfl, _, _, _, [], _, [], hW', trodAll_mk1 (shut_bool Try.underlying4 _), (trodAll_cons_mk (Below.trod laidOut (by kernel_rfl) (of_decide_eq_true (by kernel_rfl)) k0 bel lt0) (trodAll_cons_mk (Below.trod laidOut (by kernel_rfl) (of_decide_eq_true (by kernel_rfl)) k1 bel lt1) trodAll_mk0)), rfl, bel.frame _, fun h => by cases h⟩

theorem over : Rows.fnExactMulPlateRow.holds Try.pinned (OpenSpec.ofChange Rows.fnExactMulPlateSpec) :=
  OpenClaim.holds_of_wide 13 Try.f13 rfl rfl rfl rfl rfl rfl rfl ⟨rfl, rfl, rfl, rfl, rfl⟩ rfl rfl rfl rfl rfl (by kernel_rfl) Try.func13 (by kernel_rfl)
    (of_decide_eq_true (by kernel_rfl)) (by unfold Func.isWrapper; first | (rw [if_pos (by decide +kernel)]; kernel_rfl) | (rw [if_neg (by decide +kernel)]; exact ⟨rfl, rfl⟩))
    (fun os started H enc _ => lifted os started H enc)
end Go.Proofs.Ytnmkbhallidgaaa.LawMulPlate
namespace Go.Proofs.Ytnmkbhallidgaaa
theorem mulPlate_holds : Rows.FnExactMulPlateSaid := LawMulPlate.over
#print axioms mulPlate_holds
end Go.Proofs.Ytnmkbhallidgaaa
