/- At every complex number the program answers the specification's root, part by part, all NaNs being one; nothing that was there is changed. -/
import Derived.Test.YtnmkbhallidgaaaOpenZ
import Derived.Test.YtnmkbhallidgaaaSq
import Derived.Test.YtnmkbhallidgaaaKeeps
import Derived.Handy
import Derived.Deep.RegionHeld3
import Derived.Deep.DeepCutAuto
namespace Go.Proofs.Ytnmkbhallidgaaa.LawSqrtZ
open Go.ChangeShapes Go.WideShapes Go.ChangeAt Go.RowKit Go.Joins Fl
set_option linter.unusedVariables false

set_option maxHeartbeats 3200000 in
theorem walk {a b : Nat} {p : Option Nat × Option Nat} (h : Zc a b p) (w : World) :
    Calls Try.prog 11 #[Zv a b] w fun e w' => e = .returned (.bool true) ∧ Below w.heap.size w w' := by
  have hst := st64
  go_enter Try.func11, Try.ntmps11
  go_wp2_with fail
  refine (toZ_any _ _ _).mono ?_
  rintro e w1 ⟨rfl, b1⟩
  have A0 : Below (w.heap.size + 1) (w.alloc (.cells #[.float .f64 a, .float .f64 b] 31)) w1 := by simpa using b1
  have A1 : Hid (Below (w.heap.size + 1) (w.alloc (.cells #[.float .f64 a, .float .f64 b] 31)) w1) := A0
  clear b1 A0
  go_wp2_with fail
  refine (sSqrtZ_any h _).mono ?_
  rintro e w2 ⟨x, y, rfl, hz, b2⟩
  have A2 : Hid (Below (w.heap.size + 1) (w.alloc (.cells #[.float .f64 a, .float .f64 b] 31)) w2) := box_step A1.out b2 (by simp)
  clear b2 A1
  have qc0 : w2.cell? ⟨w.heap.size, 0, none⟩ = some (.float .f64 a) := (A2.out.cell (by simp)).trans (by simp)
  have qc1 : w2.cell? ⟨w.heap.size, 1, none⟩ = some (.float .f64 b) := (A2.out.cell (by simp)).trans (by simp)
  have q0 : ∀ o, (w2.alloc o).cell? ⟨w.heap.size, 0, none⟩ = some (.float .f64 a) := fun o => alloc_keeps (qc0)
  have q1 : ∀ o, (w2.alloc o).cell? ⟨w.heap.size, 1, none⟩ = some (.float .f64 b) := fun o => alloc_keeps (qc1)
  have hne : ¬ w.heap.size = w2.heap.size := by have := A2.out.size; simp at this; omega
  obtain ⟨V, hV⟩ : ∃ V, V = w2.alloc (.cells #[.float .f64 x, .float .f64 y] 28) := ⟨_, rfl⟩
  have AV : Hid (Below (w.heap.size + 1) (w.alloc (.cells #[.float .f64 a, .float .f64 b] 31)) V ∧ w2.heap.size < V.heap.size) := ⟨by rw [hV]; exact A2.out.alloc (by have := A2.out.size; simp at this; omega) _, by rw [hV]; simp⟩
  have AC0 : Hid (V.cell? ⟨w2.heap.size, 0, none⟩ = some (.float .f64 x)) := by
    have h : V.cell? ⟨w2.heap.size, 0, none⟩ = some (.float .f64 x) := by rw [hV]; simp
    exact h
  have AC1 : Hid (V.cell? ⟨w2.heap.size, 1, none⟩ = some (.float .f64 y)) := by
    have h : V.cell? ⟨w2.heap.size, 1, none⟩ = some (.float .f64 y) := by rw [hV]; simp
    exact h
  go_wp2_with fail
  rw [← hV]
  clear hV qc0 q0 qc1 q1 hne A2
  refine (toZ_any _ _ _).mono ?_
  rintro e w3 ⟨rfl, b3⟩
  have A3 : Hid (Below V.heap.size V w3) := b3
  clear b3
  go_wp2_with fail
  refine (iSqrtZ_any h _).mono ?_
  rintro e w4 ⟨x', y', rfl, hy, b4⟩
  have A4 : Hid (Below V.heap.size V w4) := box_step A3.out b4 (Nat.le_refl _)
  clear b4 A3
  have dc0 : w4.cell? ⟨w2.heap.size, 0, none⟩ = some (.float .f64 x) := old_cell A4.out AV.out.2 AC0.out
  have dc1 : w4.cell? ⟨w2.heap.size, 1, none⟩ = some (.float .f64 y) := old_cell A4.out AV.out.2 AC1.out
  have d0 : ∀ o, (w4.alloc o).cell? ⟨w2.heap.size, 0, none⟩ = some (.float .f64 x) := fun o => alloc_keeps (dc0)
  have d1 : ∀ o, (w4.alloc o).cell? ⟨w2.heap.size, 1, none⟩ = some (.float .f64 y) := fun o => alloc_keeps (dc1)
  have hne : ¬ w2.heap.size = w4.heap.size := by have := A4.out.size; have := AV.out.2; omega
  clear AC0 AC1
  go_wp2_with fail
  refine (eqZ_same hy hz _).mono ?_
  rintro e w5 ⟨rfl, b5⟩
  have A5 : Hid (Below w.heap.size w w5) := by
    have B4 : Below V.heap.size V (w4.alloc (.cells #[.float .f64 x', .float .f64 y'] 28)) := A4.out.alloc A4.out.size _
    exact box_out (box_step AV.out.1 (box_step B4 b5 (Nat.le_refl _)) (by simp))
  clear b5 A4 dc0 d0 dc1 d1 hne
  go_wp2
  go_ret
  exact ⟨rfl, A5.out⟩

set_option maxRecDepth 100000 in
theorem lifted (os : Os) (started : os.Started) (H : Type) (enc : TypeId × Value → H) :
    ReturnsInHanded {} Try.checked os 11 .any (Rows.fnExactSqrtZSpec.pre6 enc Try.prog Try.f11 Rows.fnExactSqrtZRow.domain false) (Rows.fnExactSqrtZSpec.post enc Try.prog Try.f11 false true false false) := by
  refine returnsInHanded_of_change (C := Try.checked) own started (by kernel_rfl) Try.func11
    (ChangeSpec.witness6 (enc := enc) (C := Try.checked) false ⟨#[], #[.agg #[.float .f64 0, .float .f64 0]], []⟩ 8 (by kernel_rfl) (by kernel_rfl) (by kernel_rfl) (by kernel_rfl)) ?_
  intro W base args ds gs before hval0 hW hcnd _
  have hval : ∀ (j : Nat) t v, Try.f11.params[j]? = some t → args[j]? = some v → Value.okWide Try.prog W .any base t v := hval0
  have hW' := hW
  obtain ⟨p, q, hA0, hV, rfl, hfz, hnd⟩ := hW
  have hA : DataW.TrodAll enc Try.prog W 0 (fun _ => true) true Try.f11.params.toList args.toList ds p := hA0
  rw [Try.params11] at hA hval
  obtain ⟨v0, vs0, d0, ds0, p0, q0, hargs, rfl, rfl, h0, r0⟩ := trodAll_cons hA
  obtain ⟨rfl, rfl, rfl⟩ := trodAll_nil r0
  obtain rfl : args = #[v0] := by cases args; simp_all
  obtain ⟨rfl, rfl⟩ := trodVars_none hV
  have k0 := h0
  have lt0 : ∀ x ∈ p0, x.block < W.heap.size := by obtain ⟨m, hm⟩ := k0; exact DataW.trod_lt m _ _ _ hm
  obtain ⟨a0, b0, rfl, z0⟩ := open_z (hval 0 31 v0 rfl rfl) h0
  clear hA0 hval0
  refine (walk z0 W).mono fun e W' ⟨he, bel⟩ => ?_
  subst he
  exact ⟨_, rfl, _, _, _, [], _, [], hW', trodAll_mk1 (shut_bool Try.underlying4 _), (trodAll_cons_mk (Below.trod laidOut (by kernel_rfl) (of_decide_eq_true (by kernel_rfl)) k0 bel lt0) trodAll_mk0), rfl, bel.frame _, fun h => by cases h⟩

theorem over : Rows.fnExactSqrtZRow.holds Try.pinned (OpenSpec.ofChange Rows.fnExactSqrtZSpec) :=
  OpenClaim.holds_of_wide 11 Try.f11 rfl rfl rfl rfl rfl rfl rfl ⟨rfl, rfl, rfl, rfl, rfl⟩ rfl rfl rfl rfl rfl (by kernel_rfl) Try.func11 (by kernel_rfl)
    (of_decide_eq_true (by kernel_rfl)) (by unfold Func.isWrapper; first | (rw [if_pos (by decide +kernel)]; kernel_rfl) | (rw [if_neg (by decide +kernel)]; exact ⟨rfl, rfl⟩))
    (fun os started H enc _ => lifted os started H enc)
end Go.Proofs.Ytnmkbhallidgaaa.LawSqrtZ
namespace Go.Proofs.Ytnmkbhallidgaaa
theorem sqrtZ_holds : Rows.FnExactSqrtZSaid := LawSqrtZ.over
#print axioms sqrtZ_holds
end Go.Proofs.Ytnmkbhallidgaaa
