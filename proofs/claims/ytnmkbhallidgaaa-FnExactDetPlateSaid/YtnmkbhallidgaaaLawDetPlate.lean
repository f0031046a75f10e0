/- At every plate the program answers the specification's determinant, part by part, all NaNs being one; nothing that was there is changed. -/
import Derived.Test.YtnmkbhallidgaaaTp
import Derived.Handy
import Derived.Deep.RegionHeld3
import Derived.Deep.DeepCutAuto
namespace Go.Proofs.Ytnmkbhallidgaaa.LawDetPlate
open Go.ChangeShapes Go.WideShapes Go.ChangeAt Go.RowKit Go.Joins Fl
set_option linter.unusedVariables false

set_option maxHeartbeats 3200000 in
theorem walk {a0 a1 a2 a3 a4 a5 a6 a7 : Nat} {p : P4} (h : Pc a0 a1 a2 a3 a4 a5 a6 a7 p) (w : World) :
    Calls Try.prog 14 #[Pv a0 a1 a2 a3 a4 a5 a6 a7] w fun e w' => e = .returned (.bool true) ∧ Below w.heap.size w w' := by
  have hst := st64
  go_enter Try.func14, Try.ntmps14
  go_wp2_with fail
  refine (toP_any _ _ _ _ _ _ _ _ _).mono ?_
  rintro e w1 ⟨rfl, b1⟩
  have A0 : Below (w.heap.size + 1) (w.alloc (.cells #[.float .f64 a0, .float .f64 a1, .float .f64 a2, .float .f64 a3, .float .f64 a4, .float .f64 a5, .float .f64 a6, .float .f64 a7] 52)) w1 := by simpa using b1
  have A1 : Hid (Below (w.heap.size + 1) (w.alloc (.cells #[.float .f64 a0, .float .f64 a1, .float .f64 a2, .float .f64 a3, .float .f64 a4, .float .f64 a5, .float .f64 a6, .float .f64 a7] 52)) w1) := A0
  clear b1 A0
  go_wp2_with fail
  refine (sDet_any h _).mono ?_
  rintro e w2 ⟨x, y, rfl, hz, b2⟩
  have A2 : Hid (Below (w.heap.size + 1) (w.alloc (.cells #[.float .f64 a0, .float .f64 a1, .float .f64 a2, .float .f64 a3, .float .f64 a4, .float .f64 a5, .float .f64 a6, .float .f64 a7] 52)) w2) := box_step A1.out b2 (by simp)
  clear b2 A1
  have qc0 : w2.cell? ⟨w.heap.size, 0, none⟩ = some (.float .f64 a0) := (A2.out.cell (by simp)).trans (by simp)
  have qc1 : w2.cell? ⟨w.heap.size, 1, none⟩ = some (.float .f64 a1) := (A2.out.cell (by simp)).trans (by simp)
  have qc2 : w2.cell? ⟨w.heap.size, 2, none⟩ = some (.float .f64 a2) := (A2.out.cell (by simp)).trans (by simp)
  have qc3 : w2.cell? ⟨w.heap.size, 3, none⟩ = some (.float .f64 a3) := (A2.out.cell (by simp)).trans (by simp)
  have qc4 : w2.cell? ⟨w.heap.size, 4, none⟩ = some (.float .f64 a4) := (A2.out.cell (by simp)).trans (by simp)
  have qc5 : w2.cell? ⟨w.heap.size, 5, none⟩ = some (.float .f64 a5) := (A2.out.cell (by simp)).trans (by simp)
  have qc6 : w2.cell? ⟨w.heap.size, 6, none⟩ = some (.float .f64 a6) := (A2.out.cell (by simp)).trans (by simp)
  have qc7 : w2.cell? ⟨w.heap.size, 7, none⟩ = some (.float .f64 a7) := (A2.out.cell (by simp)).trans (by simp)
  have q0 : ∀ o, (w2.alloc o).cell? ⟨w.heap.size, 0, none⟩ = some (.float .f64 a0) := fun o => alloc_keeps (qc0)
  have q1 : ∀ o, (w2.alloc o).cell? ⟨w.heap.size, 1, none⟩ = some (.float .f64 a1) := fun o => alloc_keeps (qc1)
  have q2 : ∀ o, (w2.alloc o).cell? ⟨w.heap.size, 2, none⟩ = some (.float .f64 a2) := fun o => alloc_keeps (qc2)
  have q3 : ∀ o, (w2.alloc o).cell? ⟨w.heap.size, 3, none⟩ = some (.float .f64 a3) := fun o => alloc_keeps (qc3)
  have q4 : ∀ o, (w2.alloc o).cell? ⟨w.heap.size, 4, none⟩ = some (.float .f64 a4) := fun o => alloc_keeps (qc4)
  have q5 : ∀ o, (w2.alloc o).cell? ⟨w.heap.size, 5, none⟩ = some (.float .f64 a5) := fun o => alloc_keeps (qc5)
  have q6 : ∀ o, (w2.alloc o).cell? ⟨w.heap.size, 6, none⟩ = some (.float .f64 a6) := fun o => alloc_keeps (qc6)
  have q7 : ∀ o, (w2.alloc o).cell? ⟨w.heap.size, 7, none⟩ = some (.float .f64 a7) := fun o => alloc_keeps (qc7)
  have hne : ¬ w.heap.size = w2.heap.size := by have := A2.out.size; simp at this; omega
  obtain ⟨V, hV⟩ : ∃ V, V = w2.alloc (.cells #[.float .f64 x, .float .f64 y] 28) := ⟨_, rfl⟩
  have AV : Hid (Below (w.heap.size + 1) (w.alloc (.cells #[.float .f64 a0, .float .f64 a1, .float .f64 a2, .float .f64 a3, .float .f64 a4, .float .f64 a5, .float .f64 a6, .float .f64 a7] 52)) V ∧ w2.heap.size < V.heap.size) := ⟨by rw [hV]; exact A2.out.alloc (by have := A2.out.size; simp at this; omega) _, by rw [hV]; simp⟩
  have AC0 : Hid (V.cell? ⟨w2.heap.size, 0, none⟩ = some (.float .f64 x)) := by
    have h : V.cell? ⟨w2.heap.size, 0, none⟩ = some (.float .f64 x) := by rw [hV]; simp
    exact h
  have AC1 : Hid (V.cell? ⟨w2.heap.size, 1, none⟩ = some (.float .f64 y)) := by
    have h : V.cell? ⟨w2.heap.size, 1, none⟩ = some (.float .f64 y) := by rw [hV]; simp
    exact h
  go_wp2_with fail
  rw [← hV]
  clear hV qc0 q0 qc1 q1 qc2 q2 qc3 q3 qc4 q4 qc5 q5 qc6 q6 qc7 q7 hne A2
  refine (toP_any _ _ _ _ _ _ _ _ _).mono ?_
  rintro e w3 ⟨rfl, b3⟩
  have A3 : Hid (Below V.heap.size V w3) := b3
  clear b3
  go_wp2_with fail
  refine (iDet_any h _).mono ?_
  rintro e w4 ⟨x', y', rfl, hy, b4⟩
  have A4 : Hid (Below V.heap.size V w4) := box_step A3.out b4 (Nat.le_refl _)
  clear b4 A3
  have dc0 : w4.cell? ⟨w2.heap.size, 0, none⟩ = some (.float .f64 x) := old_cell A4.out AV.out.2 AC0.out
  have dc1 : w4.cell? ⟨w2.heap.size, 1, none⟩ = some (.float .f64 y) := old_cell A4.out AV.out.2 AC1.out
  have d0 : ∀ o, (w4.alloc o).cell? ⟨w2.heap.size, 0, none⟩ = some (.float .f64 x) := fun o => alloc_keeps (dc0)
  have d1 : ∀ o, (w4.alloc o).cell? ⟨w2.heap.size, 1, none⟩ = some (.float .f64 y) := fun o => alloc_keeps (dc1)
  have hne : ¬ w2.heap.size = w4.heap.size := by have := A4.out.size; have := AV.out.2; omega
  clear AC0 AC1
  go_wp2_with fail
  refine (eqZ_same hy hz _).mono ?_
  rintro e w5 ⟨rfl, b5⟩
  have A5 : Hid (Below w.heap.size w w5) := by
    have B4 : Below V.heap.size V (w4.alloc (.cells #[.float .f64 x', .float .f64 y'] 28)) := A4.out.alloc A4.out.size _
    exact box_out (box_step AV.out.1 (box_step B4 b5 (Nat.le_refl _)) (by simp))
  clear b5 A4 dc0 d0 dc1 d1 hne
  go_wp2
  go_ret
  exact ⟨rfl, A5.out⟩

set_option maxRecDepth 100000 in
theorem lifted (os : Os) (started : os.Started) (H : Type) (enc : TypeId × Value → H) :
    ReturnsInHanded {} Try.checked os 14 .any (Rows.fnExactDetPlateSpec.pre6 enc Try.prog Try.f14 Rows.fnExactDetPlateRow.domain false) (Rows.fnExactDetPlateSpec.post enc Try.prog Try.f14 false true false false) := by
  refine returnsInHanded_of_change (C := Try.checked) own started (by kernel_rfl) Try.func14
    (ChangeSpec.witness6 (enc := enc) (C := Try.checked) false ⟨#[], #[.agg #[.float .f64 0, .float .f64 0, .float .f64 0, .float .f64 0, .float .f64 0, .float .f64 0, .float .f64 0, .float .f64 0]], []⟩ 8 (by kernel_rfl) (by kernel_rfl) (by kernel_rfl) (by kernel_rfl)) ?_
  intro W base args ds gs before hval0 hW hcnd _
  have hval : ∀ (j : Nat) t v, Try.f14.params[j]? = some t → args[j]? = some v → Value.okWide Try.prog W .any base t v := hval0
  have hW' := hW
  obtain ⟨p, q, hA0, hV, rfl, hfz, hnd⟩ := hW
  have hA : DataW.TrodAll enc Try.prog W 0 (fun _ => true) true Try.f14.params.toList args.toList ds p := hA0
  rw [Try.params14] at hA hval
  obtain ⟨v0, vs0, d0, ds0, p0, q0, hargs, rfl, rfl, h0, r0⟩ := trodAll_cons hA
  obtain ⟨rfl, rfl, rfl⟩ := trodAll_nil r0
  obtain rfl : args = #[v0] := by cases args; simp_all
  obtain ⟨rfl, rfl⟩ := trodVars_none hV
  have k0 := h0
  have lt0 : ∀ x ∈ p0, x.block < W.heap.size := by obtain ⟨m, hm⟩ := k0; exact DataW.trod_lt m _ _ _ hm
  obtain ⟨a0, z0, e0⟩ := open_plate (hval 0 52 v0 rfl rfl) h0
  subst e0
  clear hA0 hval0
  refine (walk z0 W).mono fun e W' ⟨he, bel⟩ => ?_
  subst he
  exact ⟨_, rfl, _, _, _, [], _, [], hW', trodAll_mk1 (shut_bool Try.underlying4 _), (trodAll_cons_mk (Below.trod laidOut (by kernel_rfl) (of_decide_eq_true (by kernel_rfl)) k0 bel lt0) trodAll_mk0), rfl, bel.frame _, fun h => by cases h⟩

theorem over : Rows.fnExactDetPlateRow.holds Try.pinned (OpenSpec.ofChange Rows.fnExactDetPlateSpec) :=
  OpenClaim.holds_of_wide 14 Try.f14 rfl rfl rfl rfl rfl rfl rfl ⟨rfl, rfl, rfl, rfl, rfl⟩ rfl rfl rfl rfl rfl (by kernel_rfl) Try.func14 (by kernel_rfl)
    (of_decide_eq_true (by kernel_rfl)) (by unfold Func.isWrapper; first | (rw [if_pos (by decide +kernel)]; kernel_rfl) | (rw [if_neg (by decide +kernel)]; exact ⟨rfl, rfl⟩))
    (fun os started H enc _ => lifted os started H enc)
end Go.Proofs.Ytnmkbhallidgaaa.LawDetPlate
namespace Go.Proofs.Ytnmkbhallidgaaa
theorem detPlate_holds : Rows.FnExactDetPlateSaid := LawDetPlate.over
#print axioms detPlate_holds
end Go.Proofs.Ytnmkbhallidgaaa
