/- At every list of floats the program's SortFloats answers as the specification, all NaNs being one, in memory of its own that neither the argument's nor a second call's marks reach, where the law's own bound on the length does not answer first; nothing that was there is changed. -/
import Derived.Test.YtbhpdlhmkmkbhaaArgf
import Derived.Test.YtbhpdlhmkmkbhaaMarks
import Derived.Handy
namespace Go.Proofs.Ytbhpdlhmkmkbhaa.LawSortFloats
open Go.ChangeShapes Go.WideShapes Go.ChangeAt Go.RowKit Go.Joins
set_option linter.unusedVariables false

open Fl Sr in
set_option maxRecDepth 100000 in
set_option maxHeartbeats 3200000 in
theorem walk {w : World} {v : Value} {n : Nat} {f : Nat → Nat} (h : RdF w v n f) (hn : n ≤ 9223372036854775807) (hf : ∀ i, i < n → f i < 18446744073709551616) :
    Calls Try.prog 11 #[v] w fun e w' => e = .returned (.bool true) ∧ Below w.heap.size w w' := by
  obtain ⟨ao, cap, rfl⟩ := h.form
  have H : Hid (RdF w (.slice ao n cap) n f ∧ ∀ i, i < n → f i < 18446744073709551616) := ⟨h, hf⟩
  clear h hf
  go_enter Try.func11, Try.ntmps11
  by_cases hb : 1048576 < n
  · go_wp2
    go_ret
    exact ⟨rfl, Below.refl _ _⟩
  have hn2 : n ≤ 1000000000000 := by omega
  go_wp2_with fail
  refine (toS_any H.out.1 hn2).mono ?_
  rintro e w1 ⟨rfl, s1, b1, z1⟩
  have A1 : Hid (Seg w1 w.heap.size 24 0 n (fun i => .float .f64 (f i)) ∧ Below w.heap.size w w1) := ⟨s1, b1⟩
  clear s1 b1 z1
  go_wp2_with fail
  refine (sSort_any n w.heap.size 0 n f w1 (Nat.le_refl _) (by omega) (fun i hi => A1.out.1.cell hi) H.out.2).mono ?_
  rintro e w2 ⟨v2, rfl, h2⟩
  obtain ⟨Gs, cs, gs, rfl, r1, r2, r3, r4, r5, r6⟩ := h2
  have S2 : Hid ((∀ i, i < n → gs i < 18446744073709551616) ∧ Pm 0 n f gs ∧ Srt rk 0 n gs) := ⟨r3, r4, r5⟩
  have A2 : Hid (Seg w2 Gs 24 0 n (fun i => .float .f64 (gs i)) ∧ Below w.heap.size w w2) := ⟨r2, A1.out.2.trans (r6.mono A1.out.2.size)⟩
  clear r1 r2 r3 r4 r5 r6 A1
  go_wp2_with fail
  refine (toS_any (H.out.1.later A2.out.2) hn2).mono ?_
  rintro e w3 ⟨rfl, s3, b3, z3⟩
  have A3 : Hid (Seg w3 Gs 24 0 n (fun i => .float .f64 (gs i)) ∧ Below w.heap.size w w3 ∧ Seg w3 w2.heap.size 24 0 n (fun i => .float .f64 (f i)) ∧ Gs < w2.heap.size ∧ w2.heap.size < w3.heap.size ∧ w.heap.size ≤ w2.heap.size) := ⟨A2.out.1.below b3, A2.out.2.trans (b3.mono A2.out.2.size), s3, A2.out.1.lt, by omega, A2.out.2.size⟩
  clear s3 b3 z3 A2
  go_wp2_with fail
  refine (iSort_any w2.heap.size 0 n n f w3 hn2 (fun i hi => A3.out.2.2.1.cell hi) H.out.2).mono ?_
  rintro e w4 ⟨v4, rfl, h4⟩
  obtain ⟨Gi, ci, gi, rfl, r1, r2, r3, r4, r5, r6⟩ := h4
  have S4 : Hid (∀ i, i < n → gi i < 18446744073709551616 ∧ gs i < 18446744073709551616 ∧ cl (gi i) = cl (gs i)) := sorted_same r4 S2.out.2.1 r5 S2.out.2.2 r3 S2.out.1
  have A4 : Hid (Seg w4 Gs 24 0 n (fun i => .float .f64 (gs i)) ∧ Below w.heap.size w w4 ∧ Seg w4 w2.heap.size 24 0 n (fun i => .float .f64 (f i)) ∧ Seg w4 Gi 24 0 n (fun i => .float .f64 (gi i)) ∧ Gs < w2.heap.size ∧ w2.heap.size < Gi ∧ w.heap.size ≤ w2.heap.size) :=
    ⟨A3.out.1.below r6, A3.out.2.1.trans (r6.mono A3.out.2.1.size), A3.out.2.2.1.below r6, r2, A3.out.2.2.2.1, by have := A3.out.2.2.2.2.1; omega, A3.out.2.2.2.2.2⟩
  clear r1 r2 r3 r4 r5 r6 A3
  go_wp2_with fail
  refine (eqF_some Gi 0 ci Gs 0 cs n gi gs w4 hn2 (fun i hi => A4.out.2.2.2.1.cell hi) (fun i hi => A4.out.1.cell hi) S4.out).mono ?_
  rintro e w5 ⟨rfl, q5, hw5⟩
  have A5 : Hid (Seg w5 Gs 24 0 n (fun i => .float .f64 (gs i)) ∧ Below w.heap.size w w5 ∧ Seg w5 w2.heap.size 24 0 n (fun i => .float .f64 (f i)) ∧ Seg w5 Gi 24 0 n (fun i => .float .f64 (gi i)) ∧ Gs < w2.heap.size ∧ w2.heap.size < Gi ∧ w.heap.size ≤ w2.heap.size) := by
    rw [hw5]; exact ⟨A4.out.1, below_drewN A4.out.2.1 _, A4.out.2.2⟩
  clear hw5 A4
  go_wp2_with fail
  refine (toS_any (H.out.1.later A5.out.2.1) hn2).mono ?_
  rintro e w6 ⟨rfl, s6, b6, z6⟩
  have A6 : Hid (Seg w6 Gs 24 0 n (fun i => .float .f64 (gs i)) ∧ Below w.heap.size w w6 ∧ Seg w6 w2.heap.size 24 0 n (fun i => .float .f64 (f i)) ∧ Seg w6 Gi 24 0 n (fun i => .float .f64 (gi i)) ∧ Gs < w2.heap.size ∧ w2.heap.size < Gi ∧ w.heap.size ≤ w2.heap.size ∧ Seg w6 w5.heap.size 24 0 n (fun i => .float .f64 (f i))) :=
    ⟨A5.out.1.below b6, A5.out.2.1.trans (b6.mono A5.out.2.1.size), A5.out.2.2.1.below b6, A5.out.2.2.2.1.below b6, A5.out.2.2.2.2.1, A5.out.2.2.2.2.2.1, A5.out.2.2.2.2.2.2, s6⟩
  clear s6 b6 z6 A5
  go_wp2_with fail
  refine (eqF_some w2.heap.size 0 n w5.heap.size 0 n n f f w6 hn2 (fun i hi => A6.out.2.2.1.cell hi) (fun i hi => A6.out.2.2.2.2.2.2.2.cell hi) (fun i hi => ⟨H.out.2 i hi, H.out.2 i hi, rfl⟩)).mono ?_
  rintro e w7 ⟨rfl, q7, hw7⟩
  have A7 : Hid (Seg w7 Gs 24 0 n (fun i => .float .f64 (gs i)) ∧ Below w.heap.size w w7 ∧ Seg w7 w2.heap.size 24 0 n (fun i => .float .f64 (f i)) ∧ Seg w7 Gi 24 0 n (fun i => .float .f64 (gi i)) ∧ Gs < w2.heap.size ∧ w2.heap.size < Gi ∧ w.heap.size ≤ w2.heap.size) := by
    rw [hw7]; exact ⟨A6.out.1, below_drewN A6.out.2.1 _, A6.out.2.2.1, A6.out.2.2.2.1, A6.out.2.2.2.2.1, A6.out.2.2.2.2.2.1, A6.out.2.2.2.2.2.2.1⟩
  clear hw7 A6
  go_wp2_with fail
  refine (markF_any w2.heap.size n n f 1 w7 (by omega) (by omega) A7.out.2.2.1).mono ?_
  rintro e w8 ⟨rfl, s8, i8, z8⟩
  have A8 : Hid (Seg w8 Gs 24 0 n (fun i => .float .f64 (gs i)) ∧ Below w.heap.size w w8 ∧ Seg w8 Gi 24 0 n (fun i => .float .f64 (gi i)) ∧ Gs < w2.heap.size ∧ w2.heap.size < Gi ∧ w.heap.size ≤ w2.heap.size) :=
    ⟨A7.out.1.within i8 (by have := A7.out.2.2.2.2.1; omega), A7.out.2.1.trans (i8.below.mono A7.out.2.2.2.2.2.2), A7.out.2.2.2.1.within i8 (by have := A7.out.2.2.2.2.2.1; omega), A7.out.2.2.2.2.1, A7.out.2.2.2.2.2.1, A7.out.2.2.2.2.2.2⟩
  clear s8 i8 z8 A7
  go_wp2_with fail
  refine (eqF_some Gi 0 ci Gs 0 cs n gi gs w8 hn2 (fun i hi => A8.out.2.2.1.cell hi) (fun i hi => A8.out.1.cell hi) S4.out).mono ?_
  rintro e w9 ⟨rfl, q9, hw9⟩
  have A9 : Hid (Seg w9 Gs 24 0 n (fun i => .float .f64 (gs i)) ∧ Below w.heap.size w w9 ∧ Seg w9 Gi 24 0 n (fun i => .float .f64 (gi i)) ∧ Gs < w2.heap.size ∧ w2.heap.size < Gi ∧ w.heap.size ≤ w2.heap.size) := by
    rw [hw9]; exact ⟨A8.out.1, below_drewN A8.out.2.1 _, A8.out.2.2⟩
  clear hw9 A8
  go_wp2_with fail
  refine (markF_any Gi n ci gi 1 w9 (by omega) (by omega) A9.out.2.2.1).mono ?_
  rintro e w10 ⟨rfl, s10, i10, z10⟩
  have A10 : Hid (Seg w10 Gs 24 0 n (fun i => .float .f64 (gs i)) ∧ Below w.heap.size w w10 ∧ Seg w10 Gi 24 0 n (fun i => .float .f64 (mk (1 + i)))) :=
    ⟨A9.out.1.within i10 (by have := A9.out.2.2.2.1; have := A9.out.2.2.2.2.1; omega), A9.out.2.1.trans (i10.below.mono (by have := A9.out.2.2.2.2.1; have := A9.out.2.2.2.2.2; omega)), s10⟩
  clear s10 i10 z10 A9
  go_wp2_with fail
  refine (heldF_any Gi n ci 1 w10 (by omega) (by omega) (fun i hi => by simpa using A10.out.2.2.cell hi)).mono ?_
  rintro e w11 ⟨rfl, rfl⟩
  go_wp2_with fail
  refine (toS_any (H.out.1.later A10.out.2.1) hn2).mono ?_
  rintro e w11 ⟨rfl, s11, b11, z11⟩
  have A11 : Hid (Seg w11 Gs 24 0 n (fun i => .float .f64 (gs i)) ∧ Below w.heap.size w w11 ∧ Seg w11 Gi 24 0 n (fun i => .float .f64 (mk (1 + i))) ∧ Seg w11 w10.heap.size 24 0 n (fun i => .float .f64 (f i))) :=
    ⟨A10.out.1.below b11, A10.out.2.1.trans (b11.mono A10.out.2.1.size), A10.out.2.2.below b11, s11⟩
  clear s11 b11 z11 A10
  go_wp2_with fail
  refine (iSort_any w10.heap.size 0 n n f w11 hn2 (fun i hi => A11.out.2.2.2.cell hi) H.out.2).mono ?_
  rintro e w12 ⟨v12, rfl, h12⟩
  obtain ⟨Gh, ch, gh, rfl, r1, r2, r3, r4, r5, r6⟩ := h12
  have S12 : Hid (∀ i, i < n → gh i < 18446744073709551616 ∧ gs i < 18446744073709551616 ∧ cl (gh i) = cl (gs i)) := sorted_same r4 S2.out.2.1 r5 S2.out.2.2 r3 S2.out.1
  have A12 : Hid (Seg w12 Gs 24 0 n (fun i => .float .f64 (gs i)) ∧ Below w.heap.size w w12 ∧ Seg w12 Gi 24 0 n (fun i => .float .f64 (mk (1 + i))) ∧ Seg w12 Gh 24 0 n (fun i => .float .f64 (gh i))) :=
    ⟨A11.out.1.below r6, A11.out.2.1.trans (r6.mono A11.out.2.1.size), A11.out.2.2.1.below r6, r2⟩
  clear r1 r2 r3 r4 r5 r6 A11
  go_wp2_with fail
  refine (eqF_some Gh 0 ch Gs 0 cs n gh gs w12 hn2 (fun i hi => A12.out.2.2.2.cell hi) (fun i hi => A12.out.1.cell hi) S12.out).mono ?_
  rintro e w13 ⟨rfl, q13, hw13⟩
  have A13 : Hid (Below w.heap.size w w13 ∧ Seg w13 Gi 24 0 n (fun i => .float .f64 (mk (1 + i)))) := by
    rw [hw13]; exact ⟨below_drewN A12.out.2.1 _, A12.out.2.2.1⟩
  clear hw13 A12
  go_wp2_with fail
  refine (heldF_any Gi n ci 1 w13 (by omega) (by omega) (fun i hi => by simpa using A13.out.2.cell hi)).mono ?_
  rintro e w14 ⟨rfl, rfl⟩
  go_wp2
  go_ret
  exact ⟨rfl, A13.out.1⟩

set_option maxRecDepth 100000 in
theorem lifted (os : Os) (started : os.Started) (H : Type) (enc : TypeId × Value → H) :
    ReturnsInHanded {} Try.checked os 11 .any (Rows.fnExactSortFloatsSpec.pre6 enc Try.prog Try.f11 Rows.fnExactSortFloatsRow.domain false) (Rows.fnExactSortFloatsSpec.post enc Try.prog Try.f11 false true false false) := by
  refine returnsInHanded_of_change (C := Try.checked) own started (by kernel_rfl) Try.func11
    (ChangeSpec.witness6 (enc := enc) (C := Try.checked) false ⟨#[], #[.slice none 0 0], []⟩ 8 (by kernel_rfl) (by kernel_rfl) (by kernel_rfl) (by kernel_rfl)) ?_
  intro W base args ds gs before hval0 hW hcnd _
  have hval : ∀ (j : Nat) t v, Try.f11.params[j]? = some t → args[j]? = some v → Value.okWide Try.prog W .any base t v := hval0
  have hW' := hW
  obtain ⟨p, q, hA0, hV, rfl, hfz, hnd⟩ := hW
  have hA : DataW.TrodAll enc Try.prog W 0 (fun _ => true) true Try.f11.params.toList args.toList ds p := hA0
  rw [Try.params11] at hA hval
  obtain ⟨v0, vs0, d0, ds0, p0, q0, hargs, rfl, rfl, h0, r0⟩ := trodAll_cons hA
  obtain ⟨rfl, rfl, rfl⟩ := trodAll_nil r0
  obtain rfl : args = #[v0] := by cases args; simp_all
  obtain ⟨rfl, rfl⟩ := trodVars_none hV
  have k0 := h0
  have lt0 : ∀ x ∈ p0, x.block < W.heap.size := by obtain ⟨m, hm⟩ := k0; exact DataW.trod_lt m _ _ _ hm
  obtain ⟨n0, F0, R0, nb0, fb0⟩ := open_frow (hval 0 34 v0 rfl rfl) h0
  clear hA0 hval0
  refine (walk R0 nb0 fb0  ).mono fun e W' ⟨he, bel⟩ => ?_
  subst he
  exact ⟨_, rfl, _, _, _, [], _, [], hW', trodAll_mk1 (shut_bool Try.underlying4 _), (trodAll_cons_mk (Below.trod laidOut (by kernel_rfl) (of_decide_eq_true (by kernel_rfl)) k0 bel lt0) trodAll_mk0), rfl, bel.frame _, fun h => by cases h⟩

theorem over : Rows.fnExactSortFloatsRow.holds Try.pinned (OpenSpec.ofChange Rows.fnExactSortFloatsSpec) :=
  OpenClaim.holds_of_wide 11 Try.f11 rfl rfl rfl rfl rfl rfl rfl ⟨rfl, rfl, rfl, rfl, rfl⟩ rfl rfl rfl rfl rfl (by kernel_rfl) Try.func11 (by kernel_rfl)
    (of_decide_eq_true (by kernel_rfl)) (by unfold Func.isWrapper; first | (rw [if_pos (by decide +kernel)]; kernel_rfl) | (rw [if_neg (by decide +kernel)]; exact ⟨rfl, rfl⟩))
    (fun os started H enc _ => lifted os started H enc)
end Go.Proofs.Ytbhpdlhmkmkbhaa.LawSortFloats
namespace Go.Proofs.Ytbhpdlhmkmkbhaa
theorem sortFloats_holds : Rows.FnExactSortFloatsSaid := LawSortFloats.over
#print axioms sortFloats_holds
end Go.Proofs.Ytbhpdlhmkmkbhaa
