/- At every float the program's NextFloat answers the specification's next one, all NaNs being one; nothing that was there is changed. -/
import Derived.Test.YtbhpdlhmkmkbhaaOpen
import Derived.Test.YtbhpdlhmkmkbhaaNext
import Derived.Handy
namespace Go.Proofs.Ytbhpdlhmkmkbhaa.LawNextFloat
open Go.ChangeShapes Go.WideShapes Go.ChangeAt Go.RowKit Go.Joins
set_option linter.unusedVariables false

open Fl in
set_option maxHeartbeats 400000 in
theorem walk {b : Nat} (hb : b < 18446744073709551616) (w : World) :
    Calls Try.prog 9 #[.float .f64 b] w fun e w' => e = .returned (.bool true) ∧ Below w.heap.size w w' := by
  go_enter Try.func9, Try.ntmps9
  go_wp2_with fail
  refine (sNext_any hb _).mono ?_
  rintro e w1 ⟨x, q, rfl, hx, hc, rfl⟩
  have HX : Hid (x < 18446744073709551616 ∧ cl x = nextC b) := ⟨hx, hc⟩
  clear hx hc
  go_wp2_with fail
  refine (iNext_any hb _).mono ?_
  rintro e w1 ⟨y, rfl, hy, hd, rfl⟩
  have HY : Hid (y < 18446744073709551616 ∧ cl y = nextC b) := ⟨hy, hd⟩
  clear hy hd
  go_wp2_with fail
  refine (same_any HY.out.1 HX.out.1 (HY.out.2.trans HX.out.2.symm) _).mono ?_
  rintro e w1 ⟨rfl, rfl⟩
  go_wp2
  go_ret
  exact ⟨rfl, below_drewN (Below.refl _ _) _⟩

set_option maxRecDepth 100000 in
theorem lifted (os : Os) (started : os.Started) (H : Type) (enc : TypeId × Value → H) :
    ReturnsInHanded {} Try.checked os 9 .any (Rows.fnExactNextFloatSpec.pre6 enc Try.prog Try.f9 Rows.fnExactNextFloatRow.domain false) (Rows.fnExactNextFloatSpec.post enc Try.prog Try.f9 false true false false) := by
  refine returnsInHanded_of_change (C := Try.checked) own started (by kernel_rfl) Try.func9
    (ChangeSpec.witness6 (enc := enc) (C := Try.checked) false ⟨#[], #[.float .f64 0], []⟩ 8 (by kernel_rfl) (by kernel_rfl) (by kernel_rfl) (by kernel_rfl)) ?_
  intro W base args ds gs before hval0 hW hcnd _
  have hval : ∀ (j : Nat) t v, Try.f9.params[j]? = some t → args[j]? = some v → Value.okWide Try.prog W .any base t v := hval0
  have hW' := hW
  obtain ⟨p, q, hA0, hV, rfl, hfz, hnd⟩ := hW
  have hA : DataW.TrodAll enc Try.prog W 0 (fun _ => true) true Try.f9.params.toList args.toList ds p := hA0
  rw [Try.params9] at hA hval
  obtain ⟨v0, vs0, d0, ds0, p0, q0, hargs, rfl, rfl, h0, r0⟩ := trodAll_cons hA
  obtain ⟨rfl, rfl, rfl⟩ := trodAll_nil r0
  obtain rfl : args = #[v0] := by cases args; simp_all
  obtain ⟨rfl, rfl⟩ := trodVars_none hV
  have k0 := h0
  have lt0 : ∀ x ∈ p0, x.block < W.heap.size := by obtain ⟨m, hm⟩ := k0; exact DataW.trod_lt m _ _ _ hm
  obtain ⟨n0, rfl, _, _, w0⟩ := open_float Try.underlying24 (hval 0 24 v0 rfl rfl) h0
  clear hA0 hval0
  refine (walk (f64_lt w0) W ).mono fun e W' ⟨he, bel⟩ => ?_
  subst he
  exact ⟨_, rfl, _, _, _, [], _, [], hW', trodAll_mk1 (shut_bool Try.underlying4 _), (trodAll_cons_mk (Below.trod laidOut (by kernel_rfl) (of_decide_eq_true (by kernel_rfl)) k0 bel lt0) trodAll_mk0), rfl, bel.frame _, fun h => by cases h⟩

theorem over : Rows.fnExactNextFloatRow.holds Try.pinned (OpenSpec.ofChange Rows.fnExactNextFloatSpec) :=
  OpenClaim.holds_of_wide 9 Try.f9 rfl rfl rfl rfl rfl rfl rfl ⟨rfl, rfl, rfl, rfl, rfl⟩ rfl rfl rfl rfl rfl (by kernel_rfl) Try.func9 (by kernel_rfl)
    (of_decide_eq_true (by kernel_rfl)) (by unfold Func.isWrapper; first | (rw [if_pos (by decide +kernel)]; kernel_rfl) | (rw [if_neg (by decide +kernel)]; exact ⟨rfl, rfl⟩))
    (fun os started H enc _ => lifted os started H enc)
end Go.Proofs.Ytbhpdlhmkmkbhaa.LawNextFloat
namespace Go.Proofs.Ytbhpdlhmkmkbhaa
theorem nextFloat_holds : Rows.FnExactNextFloatSaid := LawNextFloat.over
#print axioms nextFloat_holds
end Go.Proofs.Ytbhpdlhmkmkbhaa
