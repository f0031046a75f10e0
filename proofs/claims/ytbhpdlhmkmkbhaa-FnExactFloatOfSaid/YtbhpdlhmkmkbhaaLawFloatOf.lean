/- At every word the program's FloatOf answers the specification's float, all NaNs being one; nothing that was there is changed. -/
import Derived.Test.YtbhpdlhmkmkbhaaOpen
import Derived.Test.YtbhpdlhmkmkbhaaNext
import Derived.Handy
namespace Go.Proofs.Ytbhpdlhmkmkbhaa.LawFloatOf
open Go.ChangeShapes Go.WideShapes Go.ChangeAt Go.RowKit Go.Joins
set_option linter.unusedVariables false

open Fl in
set_option maxHeartbeats 400000 in
theorem walk {b : Nat} (hb : b < 18446744073709551616) (w : World) :
    Calls Try.prog 6 #[.int .u64 b] w fun e w' => e = .returned (.bool true) ∧ Below w.heap.size w w' := by
  go_enter Try.func6, Try.ntmps6
  go_wp2_with fail
  refine (sOf_any hb _).mono ?_
  rintro e w1 ⟨x, q, rfl, hx, hc, rfl⟩
  have HX : Hid (x < 18446744073709551616 ∧ cl x = cl b) := ⟨hx, hc⟩
  clear hx hc
  go_wp2_with fail
  refine (iOf_any hb _).mono ?_
  rintro e w1 ⟨rfl, rfl⟩
  have HY : Hid (fb b < 18446744073709551616 ∧ cl (fb b) = cl b) := ⟨fb_lt hb, cl_fb b⟩
  go_wp2_with fail
  refine (same_any HY.out.1 HX.out.1 (HY.out.2.trans HX.out.2.symm) _).mono ?_
  rintro e w1 ⟨rfl, rfl⟩
  go_wp2
  go_ret
  exact ⟨rfl, below_drewN (Below.refl _ _) _⟩

set_option maxRecDepth 100000 in
theorem lifted (os : Os) (started : os.Started) (H : Type) (enc : TypeId × Value → H) :
    ReturnsInHanded {} Try.checked os 6 .any (Rows.fnExactFloatOfSpec.pre6 enc Try.prog Try.f6 Rows.fnExactFloatOfRow.domain false) (Rows.fnExactFloatOfSpec.post enc Try.prog Try.f6 false true false false) := by
  refine returnsInHanded_of_change (C := Try.checked) own started (by kernel_rfl) Try.func6
    (ChangeSpec.witness6 (enc := enc) (C := Try.checked) false ⟨#[], #[.int .u64 0], []⟩ 8 (by kernel_rfl) (by kernel_rfl) (by kernel_rfl) (by kernel_rfl)) ?_
  intro W base args ds gs before hval0 hW hcnd _
  have hval : ∀ (j : Nat) t v, Try.f6.params[j]? = some t → args[j]? = some v → Value.okWide Try.prog W .any base t v := hval0
  have hW' := hW
  obtain ⟨p, q, hA0, hV, rfl, hfz, hnd⟩ := hW
  have hA : DataW.TrodAll enc Try.prog W 0 (fun _ => true) true Try.f6.params.toList args.toList ds p := hA0
  rw [Try.params6] at hA hval
  obtain ⟨v0, vs0, d0, ds0, p0, q0, hargs, rfl, rfl, h0, r0⟩ := trodAll_cons hA
  obtain ⟨rfl, rfl, rfl⟩ := trodAll_nil r0
  obtain rfl : args = #[v0] := by cases args; simp_all
  obtain ⟨rfl, rfl⟩ := trodVars_none hV
  have k0 := h0
  have lt0 : ∀ x ∈ p0, x.block < W.heap.size := by obtain ⟨m, hm⟩ := k0; exact DataW.trod_lt m _ _ _ hm
  obtain ⟨z0, rfl, _, _, w0⟩ := open_int Try.underlying29 (hval 0 29 v0 rfl rfl) h0
  obtain ⟨n0, rfl⟩ := Int.eq_ofNat_of_zero_le (u64_hi w0).1
  clear hA0 hval0
  refine (walk (by have := (u64_hi w0).2; omega) W ).mono fun e W' ⟨he, bel⟩ => ?_
  subst he
  exact ⟨_, rfl, _, _, _, [], _, [], hW', trodAll_mk1 (shut_bool Try.underlying4 _), (trodAll_cons_mk (Below.trod laidOut (by kernel_rfl) (of_decide_eq_true (by kernel_rfl)) k0 bel lt0) trodAll_mk0), rfl, bel.frame _, fun h => by cases h⟩

theorem over : Rows.fnExactFloatOfRow.holds Try.pinned (OpenSpec.ofChange Rows.fnExactFloatOfSpec) :=
  OpenClaim.holds_of_wide 6 Try.f6 rfl rfl rfl rfl rfl rfl rfl ⟨rfl, rfl, rfl, rfl, rfl⟩ rfl rfl rfl rfl rfl (by kernel_rfl) Try.func6 (by kernel_rfl)
    (of_decide_eq_true (by kernel_rfl)) (by unfold Func.isWrapper; first | (rw [if_pos (by decide +kernel)]; kernel_rfl) | (rw [if_neg (by decide +kernel)]; exact ⟨rfl, rfl⟩))
    (fun os started H enc _ => lifted os started H enc)
end Go.Proofs.Ytbhpdlhmkmkbhaa.LawFloatOf
namespace Go.Proofs.Ytbhpdlhmkmkbhaa
theorem floatOf_holds : Rows.FnExactFloatOfSaid := LawFloatOf.over
#print axioms floatOf_holds
end Go.Proofs.Ytbhpdlhmkmkbhaa
