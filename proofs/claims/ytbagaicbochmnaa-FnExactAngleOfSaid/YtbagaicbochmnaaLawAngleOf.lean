/- At every complex number the program's AngleOf answers as the specification; nothing that was there is changed. -/
import Derived.Test.YtbagaicbochmnaaOpenZ
import Derived.Test.YtbagaicbochmnaaSn
import Derived.Handy
import Derived.Deep.RegionHeld3
import Derived.Deep.DeepCutAuto
namespace Go.Proofs.Ytbagaicbochmnaa.LawAngleOf
open Go.ChangeShapes Go.WideShapes Go.ChangeAt Go.RowKit Go.Joins
set_option linter.unusedVariables false

open Fl
set_option maxHeartbeats 800000 in
theorem walk {a b : Nat} {p : Option Nat × Option Nat} (h : Zc a b p) (w : World) :
    Calls Try.prog 13 #[Zv a b] w fun e w' => e = .returned (.bool true) ∧ Below w.heap.size w w' := by
  obtain ⟨X, hX⟩ : ∃ X, X = w.alloc (.cells #[.float .f64 a, .float .f64 b] 53) := ⟨_, rfl⟩
  have BX : Hid (Blk X w.heap.size #[.float .f64 a, .float .f64 b] 53) := by show Blk X _ _ _; rw [hX]; exact Blk.new rfl
  have HX : Hid (Below w.heap.size w X) := by show Below _ _ X; rw [hX]; exact (Below.refl _ _).alloc (Nat.le_refl _) _
  have x0 := BX.out.cell (j := 0) rfl
  have x1 := BX.out.cell (j := 1) rfl
  go_enter Try.func13, Try.ntmps13
  go_upto_region 1 with fail
  rw [← hX]
  clear hX
  go_wp2_with fail
  refine (toZ_any _ _ _).mono ?_
  rintro e w1 ⟨rfl, hb1⟩
  have H1 : Hid (Below X.heap.size X w1) := hb1
  clear hb1
  go_wp2_with fail
  refine (sAng_any h _).mono ?_
  rintro e w2 ⟨rfl, hb2⟩
  have H2 : Hid (Below X.heap.size X w2) := H1.out.trans (hb2.mono H1.out.size)
  have y0 := (BX.out.old H2.out).cell (j := 0) rfl
  have y1 := (BX.out.old H2.out).cell (j := 1) rfl
  clear hb2 x0 x1
  go_wp2_with fail
  refine (toZ_any _ _ _).mono ?_
  rintro e w3 ⟨rfl, hb3⟩
  have H3 : Hid (Below X.heap.size X w3) := H2.out.trans (hb3.mono H2.out.size)
  clear hb3
  go_wp2_with fail
  refine (iAng_any h _).mono ?_
  rintro e w4 ⟨rfl, hb4⟩
  have H4 : Hid (Below X.heap.size X w4) := H3.out.trans (hb4.mono H3.out.size)
  clear hb4
  go_wp2
  go_ret
  exact ⟨rfl, HX.out.trans (H4.out.mono HX.out.size)⟩

set_option maxRecDepth 100000 in
theorem lifted (os : Os) (started : os.Started) (H : Type) (enc : TypeId × Value → H) :
    ReturnsInHanded {} Try.checked os 13 .any (Rows.fnExactAngleOfSpec.pre6 enc Try.prog Try.f13 Rows.fnExactAngleOfRow.domain false) (Rows.fnExactAngleOfSpec.post enc Try.prog Try.f13 false true false false) := by
  refine returnsInHanded_of_change (C := Try.checked) own started (by kernel_rfl) Try.func13
    (ChangeSpec.witness6 (enc := enc) (C := Try.checked) false ⟨#[], #[.agg #[.float .f64 0, .float .f64 0]], []⟩ 8 (by kernel_rfl) (by kernel_rfl) (by kernel_rfl) (by kernel_rfl)) ?_
  intro W base args ds gs before hval0 hW hcnd _
  have hval : ∀ (j : Nat) t v, Try.f13.params[j]? = some t → args[j]? = some v → Value.okWide Try.prog W .any base t v := hval0
  have hW' := hW
  obtain ⟨p, q, hA0, hV, rfl, hfz, hnd⟩ := hW
  have hA : DataW.TrodAll enc Try.prog W 0 (fun _ => true) true Try.f13.params.toList args.toList ds p := hA0
  rw [Try.params13] at hA hval
  obtain ⟨v0, vs0, d0, ds0, p0, q0, hargs, rfl, rfl, h0, r0⟩ := trodAll_cons hA
  obtain ⟨rfl, rfl, rfl⟩ := trodAll_nil r0
  obtain rfl : args = #[v0] := by cases args; simp_all
  obtain ⟨rfl, rfl⟩ := trodVars_none hV
  have k0 := h0
  have lt0 : ∀ x ∈ p0, x.block < W.heap.size := by obtain ⟨m, hm⟩ := k0; exact DataW.trod_lt m _ _ _ hm
  obtain ⟨a0, b0, rfl, hz0⟩ := open_z (hval 0 53 v0 rfl rfl) h0
  clear hA0 hval0
  refine (walk hz0 W).mono fun e W' ⟨he, bel⟩ => ?_
  subst he
  exact ⟨_, rfl, _, _, _, [], _, [], hW', trodAll_mk1 (shut_bool Try.underlying4 _), (trodAll_cons_mk (Below.trod laidOut (by kernel_rfl) (of_decide_eq_true (by kernel_rfl)) k0 bel lt0) trodAll_mk0), rfl, bel.frame _, fun h => by cases h⟩

theorem over : Rows.fnExactAngleOfRow.holds Try.pinned (OpenSpec.ofChange Rows.fnExactAngleOfSpec) :=
  OpenClaim.holds_of_wide 13 Try.f13 rfl rfl rfl rfl rfl rfl rfl ⟨rfl, rfl, rfl, rfl, rfl⟩ rfl rfl rfl rfl rfl (by kernel_rfl) Try.func13 (by kernel_rfl)
    (of_decide_eq_true (by kernel_rfl)) (by unfold Func.isWrapper; first | (rw [if_pos (by decide +kernel)]; kernel_rfl) | (rw [if_neg (by decide +kernel)]; exact ⟨rfl, rfl⟩))
    (fun os started H enc _ => lifted os started H enc)
end Go.Proofs.Ytbagaicbochmnaa.LawAngleOf
namespace Go.Proofs.Ytbagaicbochmnaa
theorem angleOf_holds : Rows.FnExactAngleOfSaid := LawAngleOf.over
#print axioms angleOf_holds
end Go.Proofs.Ytbagaicbochmnaa
