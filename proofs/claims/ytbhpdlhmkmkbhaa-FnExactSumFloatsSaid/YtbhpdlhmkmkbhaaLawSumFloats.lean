/- At every list of floats the program's SumFloats answers the specification's sum, all NaNs being one, where the law's own bound on the length does not answer first; nothing that was there is changed. -/
import Derived.Test.YtbhpdlhmkmkbhaaArgf
import Derived.Test.YtbhpdlhmkmkbhaaSums
import Derived.Handy
namespace Go.Proofs.Ytbhpdlhmkmkbhaa.LawSumFloats
open Go.ChangeShapes Go.WideShapes Go.ChangeAt Go.RowKit Go.Joins
set_option linter.unusedVariables false

open Fl in
set_option maxHeartbeats 800000 in
theorem walk {w : World} {v : Value} {n : Nat} {f : Nat → Nat} (h : RdF w v n f) (hn : n ≤ 9223372036854775807) (hf : ∀ i, i < n → f i < 18446744073709551616) :
    Calls Try.prog 12 #[v] w fun e w' => e = .returned (.bool true) ∧ Below w.heap.size w w' := by
  obtain ⟨ao, cap, rfl⟩ := h.form
  have H : Hid (RdF w (.slice ao n cap) n f ∧ ∀ i, i < n → f i < 18446744073709551616) := ⟨h, hf⟩
  clear h hf
  go_enter Try.func12, Try.ntmps12
  by_cases hb : 1048576 < n
  · go_wp2
    go_ret
    exact ⟨rfl, Below.refl _ _⟩
  have hn2 : n ≤ 1000000000000 := by omega
  go_wp2_with fail
  refine (toS_any H.out.1 hn2).mono ?_
  rintro e w1 ⟨rfl, s1, b1, z1⟩
  have A1 : Hid (Seg w1 w.heap.size 24 0 n (fun i => .float .f64 (f i)) ∧ Below w.heap.size w w1) := ⟨s1, b1⟩
  clear s1 b1 z1
  go_wp2_with fail
  refine (sSum_any w.heap.size 0 n n f w1 hn2 (fun i hi => A1.out.1.cell hi) H.out.2).mono ?_
  rintro e w2 ⟨x, rfl, hx, hcx, b2⟩
  have A2 : Hid (Below w.heap.size w w2 ∧ x < 18446744073709551616 ∧ cl x = sumC f n) := ⟨A1.out.2.trans (b2.mono A1.out.2.size), hx, hcx⟩
  clear b2 hx hcx A1
  go_wp2_with fail
  refine (toS_any (H.out.1.later A2.out.1) hn2).mono ?_
  rintro e w3 ⟨rfl, s3, b3, z3⟩
  have A3 : Hid (Seg w3 w2.heap.size 24 0 n (fun i => .float .f64 (f i)) ∧ Below w.heap.size w w3) := ⟨s3, A2.out.1.trans (b3.mono A2.out.1.size)⟩
  clear s3 b3 z3
  go_wp2_with fail
  refine (iSum_any w2.heap.size 0 n n f w3 hn2 (fun i hi => A3.out.1.cell hi) H.out.2).mono ?_
  rintro e w4 ⟨y, rfl, hy, hcy, b4⟩
  have A4 : Hid (Seg w4 w2.heap.size 24 0 n (fun i => .float .f64 (f i)) ∧ Below w.heap.size w w4) := ⟨A3.out.1.below b4, A3.out.2.trans (b4.mono A3.out.2.size)⟩
  have AY : Hid (y < 18446744073709551616 ∧ cl y = sumC f n) := ⟨hy, hcy⟩
  clear b4 hy hcy A3
  go_wp2_with fail
  refine (same_any AY.out.1 A2.out.2.1 (AY.out.2.trans A2.out.2.2.symm) _).mono ?_
  rintro e w5 ⟨rfl, rfl⟩
  clear AY A2
  go_wp2_with fail
  refine (toS_any (H.out.1.later A4.out.2) hn2).mono ?_
  rintro e w5 ⟨rfl, s5, b5, z5⟩
  have A5 : Hid (Seg w5 w4.heap.size 24 0 n (fun i => .float .f64 (f i)) ∧ Seg w5 w2.heap.size 24 0 n (fun i => .float .f64 (f i)) ∧ Below w.heap.size w w5) := ⟨s5, A4.out.1.below b5, A4.out.2.trans (b5.mono A4.out.2.size)⟩
  clear s5 b5 z5 A4
  go_wp2_with fail
  refine (eqF_some _ _ _ _ _ _ n f f w5 hn2 (fun i hi => A5.out.2.1.cell hi) (fun i hi => A5.out.1.cell hi) (fun i hi => ⟨H.out.2 i hi, H.out.2 i hi, rfl⟩)).mono ?_
  rintro e w6 ⟨rfl, q, rfl⟩
  go_wp2
  go_ret
  exact ⟨rfl, below_drewN A5.out.2.2 _⟩

set_option maxRecDepth 100000 in
theorem lifted (os : Os) (started : os.Started) (H : Type) (enc : TypeId × Value → H) :
    ReturnsInHanded {} Try.checked os 12 .any (Rows.fnExactSumFloatsSpec.pre6 enc Try.prog Try.f12 Rows.fnExactSumFloatsRow.domain false) (Rows.fnExactSumFloatsSpec.post enc Try.prog Try.f12 false true false false) := by
  refine returnsInHanded_of_change (C := Try.checked) own started (by kernel_rfl) Try.func12
    (ChangeSpec.witness6 (enc := enc) (C := Try.checked) false ⟨#[], #[.slice none 0 0], []⟩ 8 (by kernel_rfl) (by kernel_rfl) (by kernel_rfl) (by kernel_rfl)) ?_
  intro W base args ds gs before hval0 hW hcnd _
  have hval : ∀ (j : Nat) t v, Try.f12.params[j]? = some t → args[j]? = some v → Value.okWide Try.prog W .any base t v := hval0
  have hW' := hW
  obtain ⟨p, q, hA0, hV, rfl, hfz, hnd⟩ := hW
  have hA : DataW.TrodAll enc Try.prog W 0 (fun _ => true) true Try.f12.params.toList args.toList ds p := hA0
  rw [Try.params12] at hA hval
  obtain ⟨v0, vs0, d0, ds0, p0, q0, hargs, rfl, rfl, h0, r0⟩ := trodAll_cons hA
  obtain ⟨rfl, rfl, rfl⟩ := trodAll_nil r0
  obtain rfl : args = #[v0] := by cases args; simp_all
  obtain ⟨rfl, rfl⟩ := trodVars_none hV
  have k0 := h0
  have lt0 : ∀ x ∈ p0, x.block < W.heap.size := by obtain ⟨m, hm⟩ := k0; exact DataW.trod_lt m _ _ _ hm
  obtain ⟨n0, F0, R0, nb0, fb0⟩ := open_frow (hval 0 34 v0 rfl rfl) h0
  clear hA0 hval0
  refine (walk R0 nb0 fb0  ).mono fun e W' ⟨he, bel⟩ => ?_
  subst he
  exact ⟨_, rfl, _, _, _, [], _, [], hW', trodAll_mk1 (shut_bool Try.underlying4 _), (trodAll_cons_mk (Below.trod laidOut (by kernel_rfl) (of_decide_eq_true (by kernel_rfl)) k0 bel lt0) trodAll_mk0), rfl, bel.frame _, fun h => by cases h⟩

theorem over : Rows.fnExactSumFloatsRow.holds Try.pinned (OpenSpec.ofChange Rows.fnExactSumFloatsSpec) :=
  OpenClaim.holds_of_wide 12 Try.f12 rfl rfl rfl rfl rfl rfl rfl ⟨rfl, rfl, rfl, rfl, rfl⟩ rfl rfl rfl rfl rfl (by kernel_rfl) Try.func12 (by kernel_rfl)
    (of_decide_eq_true (by kernel_rfl)) (by unfold Func.isWrapper; first | (rw [if_pos (by decide +kernel)]; kernel_rfl) | (rw [if_neg (by decide +kernel)]; exact ⟨rfl, rfl⟩))
    (fun os started H enc _ => lifted os started H enc)
end Go.Proofs.Ytbhpdlhmkmkbhaa.LawSumFloats
namespace Go.Proofs.Ytbhpdlhmkmkbhaa
theorem sumFloats_holds : Rows.FnExactSumFloatsSaid := LawSumFloats.over
#print axioms sumFloats_holds
end Go.Proofs.Ytbhpdlhmkmkbhaa
