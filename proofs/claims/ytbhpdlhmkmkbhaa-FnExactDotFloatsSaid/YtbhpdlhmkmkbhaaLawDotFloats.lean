/- At every two lists of floats the program's DotFloats answers the specification's sum of products, all NaNs being one, where the law's own bound on the lengths does not answer first; nothing that was there is changed. -/
import Derived.Test.YtbhpdlhmkmkbhaaArgf
import Derived.Test.YtbhpdlhmkmkbhaaDots
import Derived.Handy
namespace Go.Proofs.Ytbhpdlhmkmkbhaa.LawDotFloats
open Go.ChangeShapes Go.WideShapes Go.ChangeAt Go.RowKit Go.Joins
set_option linter.unusedVariables false

open Fl in
set_option maxHeartbeats 1600000 in
theorem walk {w : World} {v v' : Value} {n m : Nat} {f g : Nat → Nat} (h : RdF w v n f) (hn : n ≤ 9223372036854775807) (hf : ∀ i, i < n → f i < 18446744073709551616) (h' : RdF w v' m g) (hm : m ≤ 9223372036854775807) (hg : ∀ i, i < m → g i < 18446744073709551616) :
    Calls Try.prog 14 #[v, v'] w fun e w' => e = .returned (.bool true) ∧ Below w.heap.size w w' := by
  obtain ⟨ao, cap, rfl⟩ := h.form
  obtain ⟨ao', cap', rfl⟩ := h'.form
  have H : Hid (RdF w (.slice ao n cap) n f ∧ ∀ i, i < n → f i < 18446744073709551616) := ⟨h, hf⟩
  have G : Hid (RdF w (.slice ao' m cap') m g ∧ ∀ i, i < m → g i < 18446744073709551616) := ⟨h', hg⟩
  clear h hf h' hg
  go_enter Try.func14, Try.ntmps14
  by_cases hb : 1048576 < n
  · go_wp2
    go_ret
    exact ⟨rfl, Below.refl _ _⟩
  by_cases hb' : 1048576 < m
  · go_wp2
    go_ret
    exact ⟨rfl, Below.refl _ _⟩
  have hn2 : n ≤ 1000000000000 := by omega
  have hm2 : m ≤ 1000000000000 := by omega
  go_wp2_with fail
  refine (toS_any H.out.1 hn2).mono ?_
  rintro e w1 ⟨rfl, s1, b1, z1⟩
  have A1 : Hid (Seg w1 w.heap.size 24 0 n (fun i => .float .f64 (f i)) ∧ Below w.heap.size w w1) := ⟨s1, b1⟩
  clear s1 b1 z1
  go_wp2_with fail
  refine (toS_any (G.out.1.later A1.out.2) hm2).mono ?_
  rintro e w2 ⟨rfl, s2, b2, z2⟩
  have A2 : Hid (Seg w2 w.heap.size 24 0 n (fun i => .float .f64 (f i)) ∧ Seg w2 w1.heap.size 24 0 m (fun i => .float .f64 (g i)) ∧ Below w.heap.size w w2) := ⟨A1.out.1.below b2, s2, A1.out.2.trans (b2.mono A1.out.2.size)⟩
  clear s2 b2 z2 A1
  go_wp2_with fail
  refine (sDot_any w.heap.size 0 n n w1.heap.size 0 m m f g w2 hn2 hm2 (fun i hi => A2.out.1.cell hi) (fun i hi => A2.out.2.1.cell hi) H.out.2 G.out.2).mono ?_
  rintro e w3 ⟨x, rfl, hx, hcx, b3⟩
  have A3 : Hid (Below w.heap.size w w3 ∧ x < 18446744073709551616 ∧ cl x = dotC f g (min n m)) := ⟨A2.out.2.2.trans (b3.mono A2.out.2.2.size), hx, hcx⟩
  clear b3 hx hcx A2
  go_wp2_with fail
  refine (toS_any (H.out.1.later A3.out.1) hn2).mono ?_
  rintro e w4 ⟨rfl, s4, b4, z4⟩
  have A4 : Hid (Seg w4 w3.heap.size 24 0 n (fun i => .float .f64 (f i)) ∧ Below w.heap.size w w4) := ⟨s4, A3.out.1.trans (b4.mono A3.out.1.size)⟩
  clear s4 b4 z4
  go_wp2_with fail
  refine (toS_any (G.out.1.later A4.out.2) hm2).mono ?_
  rintro e w5 ⟨rfl, s5, b5, z5⟩
  have A5 : Hid (Seg w5 w3.heap.size 24 0 n (fun i => .float .f64 (f i)) ∧ Seg w5 w4.heap.size 24 0 m (fun i => .float .f64 (g i)) ∧ Below w.heap.size w w5) := ⟨A4.out.1.below b5, s5, A4.out.2.trans (b5.mono A4.out.2.size)⟩
  clear s5 b5 z5 A4
  go_wp2_with fail
  refine (iDot_any w3.heap.size 0 n n w4.heap.size 0 m m f g w5 hn2 hm2 (fun i hi => A5.out.1.cell hi) (fun i hi => A5.out.2.1.cell hi) H.out.2 G.out.2).mono ?_
  rintro e w6 ⟨y, rfl, hy, hcy, b6⟩
  have A6 : Hid (Seg w6 w3.heap.size 24 0 n (fun i => .float .f64 (f i)) ∧ Seg w6 w4.heap.size 24 0 m (fun i => .float .f64 (g i)) ∧ Below w.heap.size w w6) := ⟨A5.out.1.below b6, A5.out.2.1.below b6, A5.out.2.2.trans (b6.mono A5.out.2.2.size)⟩
  have AY : Hid (y < 18446744073709551616 ∧ cl y = dotC f g (min n m)) := ⟨hy, hcy⟩
  clear b6 hy hcy A5
  go_wp2_with fail
  refine (same_any AY.out.1 A3.out.2.1 (AY.out.2.trans A3.out.2.2.symm) _).mono ?_
  rintro e w7 ⟨rfl, rfl⟩
  clear AY A3
  go_wp2_with fail
  refine (toS_any (H.out.1.later A6.out.2.2) hn2).mono ?_
  rintro e w7 ⟨rfl, s7, b7, z7⟩
  have A7 : Hid (Seg w7 w6.heap.size 24 0 n (fun i => .float .f64 (f i)) ∧ Seg w7 w3.heap.size 24 0 n (fun i => .float .f64 (f i)) ∧ Seg w7 w4.heap.size 24 0 m (fun i => .float .f64 (g i)) ∧ Below w.heap.size w w7) := ⟨s7, A6.out.1.below b7, A6.out.2.1.below b7, A6.out.2.2.trans (b7.mono A6.out.2.2.size)⟩
  clear s7 b7 z7 A6
  go_wp2_with fail
  refine (eqF_some _ _ _ _ _ _ n f f w7 hn2 (fun i hi => A7.out.2.1.cell hi) (fun i hi => A7.out.1.cell hi) (fun i hi => ⟨H.out.2 i hi, H.out.2 i hi, rfl⟩)).mono ?_
  rintro e w8 ⟨rfl, q, hw8⟩
  have A8 : Hid (Seg w8 w4.heap.size 24 0 m (fun i => .float .f64 (g i)) ∧ Below w.heap.size w w8) := by
    rw [hw8]; exact ⟨A7.out.2.2.1, below_drewN A7.out.2.2.2 _⟩
  clear hw8 A7
  go_wp2_with fail
  refine (toS_any (G.out.1.later A8.out.2) hm2).mono ?_
  rintro e w9 ⟨rfl, s9, b9, z9⟩
  have A9 : Hid (Seg w9 w8.heap.size 24 0 m (fun i => .float .f64 (g i)) ∧ Seg w9 w4.heap.size 24 0 m (fun i => .float .f64 (g i)) ∧ Below w.heap.size w w9) := ⟨s9, A8.out.1.below b9, A8.out.2.trans (b9.mono A8.out.2.size)⟩
  clear s9 b9 z9 A8
  go_wp2_with fail
  refine (eqF_some _ _ _ _ _ _ m g g w9 hm2 (fun i hi => A9.out.2.1.cell hi) (fun i hi => A9.out.1.cell hi) (fun i hi => ⟨G.out.2 i hi, G.out.2 i hi, rfl⟩)).mono ?_
  rintro e w10 ⟨rfl, q2, rfl⟩
  go_wp2
  go_ret
  exact ⟨rfl, below_drewN A9.out.2.2 _⟩

set_option maxRecDepth 100000 in
theorem lifted (os : Os) (started : os.Started) (H : Type) (enc : TypeId × Value → H) :
    ReturnsInHanded {} Try.checked os 14 .any (Rows.fnExactDotFloatsSpec.pre6 enc Try.prog Try.f14 Rows.fnExactDotFloatsRow.domain false) (Rows.fnExactDotFloatsSpec.post enc Try.prog Try.f14 false true false false) := by
  refine returnsInHanded_of_change (C := Try.checked) own started (by kernel_rfl) Try.func14
    (ChangeSpec.witness6 (enc := enc) (C := Try.checked) false ⟨#[], #[.slice none 0 0, .slice none 0 0], []⟩ 8 (by kernel_rfl) (by kernel_rfl) (by kernel_rfl) (by kernel_rfl)) ?_
  intro W base args ds gs before hval0 hW hcnd _
  have hval : ∀ (j : Nat) t v, Try.f14.params[j]? = some t → args[j]? = some v → Value.okWide Try.prog W .any base t v := hval0
  have hW' := hW
  obtain ⟨p, q, hA0, hV, rfl, hfz, hnd⟩ := hW
  have hA : DataW.TrodAll enc Try.prog W 0 (fun _ => true) true Try.f14.params.toList args.toList ds p := hA0
  rw [Try.params14] at hA hval
  obtain ⟨v0, vs0, d0, ds0, p0, q0, hargs, rfl, rfl, h0, r0⟩ := trodAll_cons hA
  obtain ⟨v1, vs1, d1, ds1, p1, q1, rfl, rfl, rfl, h1, r1⟩ := trodAll_cons r0
  obtain ⟨rfl, rfl, rfl⟩ := trodAll_nil r1
  obtain rfl : args = #[v0, v1] := by cases args; simp_all
  obtain ⟨rfl, rfl⟩ := trodVars_none hV
  have k0 := h0
  have lt0 : ∀ x ∈ p0, x.block < W.heap.size := by obtain ⟨m, hm⟩ := k0; exact DataW.trod_lt m _ _ _ hm
  obtain ⟨n0, F0, R0, nb0, fb0⟩ := open_frow (hval 0 34 v0 rfl rfl) h0
  have k1 := h1
  have lt1 : ∀ x ∈ p1, x.block < W.heap.size := by obtain ⟨m, hm⟩ := k1; exact DataW.trod_lt m _ _ _ hm
  obtain ⟨n1, F1, R1, nb1, fb1⟩ := open_frow (hval 1 34 v1 rfl rfl) h1
  clear hA0 hval0
  refine (walk R0 nb0 fb0 R1 nb1 fb1  ).mono fun e W' ⟨he, bel⟩ => ?_
  subst he
  exact ⟨_, rfl, _, _, _, [], _, [], hW', trodAll_mk1 (shut_bool Try.underlying4 _), (trodAll_cons_mk (Below.trod laidOut (by kernel_rfl) (of_decide_eq_true (by kernel_rfl)) k0 bel lt0) (trodAll_cons_mk (Below.trod laidOut (by kernel_rfl) (of_decide_eq_true (by kernel_rfl)) k1 bel lt1) trodAll_mk0)), rfl, bel.frame _, fun h => by cases h⟩

theorem over : Rows.fnExactDotFloatsRow.holds Try.pinned (OpenSpec.ofChange Rows.fnExactDotFloatsSpec) :=
  OpenClaim.holds_of_wide 14 Try.f14 rfl rfl rfl rfl rfl rfl rfl ⟨rfl, rfl, rfl, rfl, rfl⟩ rfl rfl rfl rfl rfl (by kernel_rfl) Try.func14 (by kernel_rfl)
    (of_decide_eq_true (by kernel_rfl)) (by unfold Func.isWrapper; first | (rw [if_pos (by decide +kernel)]; kernel_rfl) | (rw [if_neg (by decide +kernel)]; exact ⟨rfl, rfl⟩))
    (fun os started H enc _ => lifted os started H enc)
end Go.Proofs.Ytbhpdlhmkmkbhaa.LawDotFloats
namespace Go.Proofs.Ytbhpdlhmkmkbhaa
theorem dotFloats_holds : Rows.FnExactDotFloatsSaid := LawDotFloats.over
#print axioms dotFloats_holds
end Go.Proofs.Ytbhpdlhmkmkbhaa
