/- At every complex number the program answers the specification's square of its size, all NaNs being one; nothing that was there is changed. -/
import Derived.Test.YtnmkbhallidgaaaOpenZ
import Derived.Handy
import Derived.Deep.RegionHeld3
import Derived.Deep.DeepCutAuto
namespace Go.Proofs.Ytnmkbhallidgaaa.LawNormZ
open Go.ChangeShapes Go.WideShapes Go.ChangeAt Go.RowKit Go.Joins Fl
set_option linter.unusedVariables false

set_option maxHeartbeats 800000 in
theorem walk {a b : Nat} {p : Option Nat × Option Nat} (h : Zc a b p) (w : World) :
    Calls Try.prog 7 #[Zv a b] w fun e w' => e = .returned (.bool true) ∧ Below w.heap.size w w' := by
  go_enter Try.func7, Try.ntmps7
  go_wp2_with fail
  refine (toZ_any _ _ _).mono ?_
  rintro e w1 ⟨rfl, b1⟩
  have A0 : Below (w.heap.size + 1) (w.alloc (.cells #[.float .f64 a, .float .f64 b] 31)) w1 := by simpa using b1
  have A1 : Hid (Below (w.heap.size + 1) (w.alloc (.cells #[.float .f64 a, .float .f64 b] 31)) w1) := A0
  clear A0
  clear b1
  go_wp2_with fail
  refine (sNorm_any h _).mono ?_
  rintro e w2 ⟨x, rfl, hx, b2⟩
  have A2 : Hid (Below (w.heap.size + 1) (w.alloc (.cells #[.float .f64 a, .float .f64 b] 31)) w2) := box_step A1.out b2 (by simp)
  clear b2 A1
  obtain ⟨e0, e1⟩ := box2 A2.out
  go_wp2_with fail
  refine (toZ_any _ _ _).mono ?_
  rintro e w3 ⟨rfl, b3⟩
  have A3 : Hid (Below (w.heap.size + 1) (w.alloc (.cells #[.float .f64 a, .float .f64 b] 31)) w3) := box_step A2.out b3 (by simp)
  clear b3 A2 e0 e1
  go_wp2_with fail
  refine (iNorm_any h _).mono ?_
  rintro e w4 ⟨y, rfl, hy, b4⟩
  have A4 : Hid (Below (w.heap.size + 1) (w.alloc (.cells #[.float .f64 a, .float .f64 b] 31)) w4) := box_step A3.out b4 (by simp)
  clear b4 A3
  go_wp2_with fail
  refine (same_any hy.lx hx.lx (hy.c.trans hx.c.symm) _).mono ?_
  rintro e w5 ⟨rfl, rfl⟩
  go_wp2
  go_ret
  exact ⟨rfl, box_out A4.out⟩

set_option maxRecDepth 100000 in
theorem lifted (os : Os) (started : os.Started) (H : Type) (enc : TypeId × Value → H) :
    ReturnsInHanded {} Try.checked os 7 .any (Rows.fnExactNormZSpec.pre6 enc Try.prog Try.f7 Rows.fnExactNormZRow.domain false) (Rows.fnExactNormZSpec.post enc Try.prog Try.f7 false true false false) := by
  refine returnsInHanded_of_change (C := Try.checked) own started (by kernel_rfl) Try.func7
    (ChangeSpec.witness6 (enc := enc) (C := Try.checked) false ⟨#[], #[.agg #[.float .f64 0, .float .f64 0]], []⟩ 8 (by kernel_rfl) (by kernel_rfl) (by kernel_rfl) (by kernel_rfl)) ?_
  intro W base args ds gs before hval0 hW hcnd _
  have hval : ∀ (j : Nat) t v, Try.f7.params[j]? = some t → args[j]? = some v → Value.okWide Try.prog W .any base t v := hval0
  have hW' := hW
  obtain ⟨p, q, hA0, hV, rfl, hfz, hnd⟩ := hW
  have hA : DataW.TrodAll enc Try.prog W 0 (fun _ => true) true Try.f7.params.toList args.toList ds p := hA0
  rw [Try.params7] at hA hval
  obtain ⟨v0, vs0, d0, ds0, p0, q0, hargs, rfl, rfl, h0, r0⟩ := trodAll_cons hA
  obtain ⟨rfl, rfl, rfl⟩ := trodAll_nil r0
  obtain rfl : args = #[v0] := by cases args; simp_all
  obtain ⟨rfl, rfl⟩ := trodVars_none hV
  have k0 := h0
  have lt0 : ∀ x ∈ p0, x.block < W.heap.size := by obtain ⟨m, hm⟩ := k0; exact DataW.trod_lt m _ _ _ hm
  obtain ⟨a0, b0, rfl, z0⟩ := open_z (hval 0 31 v0 rfl rfl) h0
  clear hA0 hval0
  refine (walk z0 W).mono fun e W' ⟨he, bel⟩ => ?_
  subst he
  exact ⟨_, rfl, _, _, _, [], _, [], hW', trodAll_mk1 (shut_bool Try.underlying4 _), (trodAll_cons_mk (Below.trod laidOut (by kernel_rfl) (of_decide_eq_true (by kernel_rfl)) k0 bel lt0) trodAll_mk0), rfl, bel.frame _, fun h => by cases h⟩

theorem over : Rows.fnExactNormZRow.holds Try.pinned (OpenSpec.ofChange Rows.fnExactNormZSpec) :=
  OpenClaim.holds_of_wide 7 Try.f7 rfl rfl rfl rfl rfl rfl rfl ⟨rfl, rfl, rfl, rfl, rfl⟩ rfl rfl rfl rfl rfl (by kernel_rfl) Try.func7 (by kernel_rfl)
    (of_decide_eq_true (by kernel_rfl)) (by unfold Func.isWrapper; first | (rw [if_pos (by decide +kernel)]; kernel_rfl) | (rw [if_neg (by decide +kernel)]; exact ⟨rfl, rfl⟩))
    (fun os started H enc _ => lifted os started H enc)
end Go.Proofs.Ytnmkbhallidgaaa.LawNormZ
namespace Go.Proofs.Ytnmkbhallidgaaa
theorem normZ_holds : Rows.FnExactNormZSaid := LawNormZ.over
#print axioms normZ_holds
end Go.Proofs.Ytnmkbhallidgaaa
