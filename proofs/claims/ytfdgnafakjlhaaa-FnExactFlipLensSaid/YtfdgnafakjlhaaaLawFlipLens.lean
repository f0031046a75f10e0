/- At every list of plain surfaces the program's FlipLens answers as the specification, in memory of its own that neither the argument's nor a second call's marks reach, where the law's own bound on its length does not answer first; nothing that was there is changed. -/
import Derived.Test.YtfdgnafakjlhaaaPo
import Derived.Test.YtfdgnafakjlhaaaPc
import Derived.Test.YtfdgnafakjlhaaaPd
import Derived.Test.YtfdgnafakjlhaaaFs
import Derived.Test.YtfdgnafakjlhaaaFi
import Derived.Handy
import Derived.Deep.RegionHeld3
import Derived.Deep.DeepCutAuto
namespace Go.Proofs.Ytfdgnafakjlhaaa.LawFlipLens
open Go.ChangeShapes Go.WideShapes Go.ChangeAt Go.RowKit Go.Joins
set_option linter.unusedVariables false

set_option maxRecDepth 100000 in
set_option maxHeartbeats 3200000 in
theorem walk {w : World} {v : Value} {n : Nat} {F : Nat → Ps} (h : RdV w v n 11 (fun i j => pcell (F i) j)) (hn : n ≤ 9223372036854775807) :
    Calls Try.prog 8 #[v] w fun e w' => e = .returned (.bool true) ∧ Below w.heap.size w w' := by
  obtain ⟨ao, cap, rfl⟩ := h.form
  have H : Hid (RdV w (.slice ao n cap) n 11 (fun i j => pcell (F i) j)) := h
  clear h
  have HZ : Hid (∀ W, Calls Try.prog 24 #[.slice ao n cap, .int .i64 1048576] W fun e w' => e = .returned (.int .i64 (if 1048576 < n then -1 else 1048576 - n)) ∧ W = w') := fun W => szPss_any ao n cap W hn
  go_enter Try.func8, Try.ntmps8
  by_cases hb : 1048576 < n
  · rw [if_pos hb] at HZ
    go_wp2_with (go_at_call 24; refine (HZ.out _).mono ?_; rintro e w' ⟨rfl, rfl⟩)
    go_ret
    exact ⟨rfl, Below.refl _ _⟩
  rw [if_neg hb] at HZ
  have hn2 : n ≤ 1048576 := by omega
  have hn3 : n ≤ 1000000000 := by omega
  have hn4 : n ≤ 100000000 := by omega
  have hn5 : n ≤ 1000000000000 := by omega
  have hnI : ¬ ((1048576 : Int) - n < 0) := by omega
  go_wp2_with (go_at_call 24; refine (HZ.out _).mono ?_; rintro e w' ⟨rfl, rfl⟩)
  clear HZ
  refine (toPss_any H.out hn3).mono ?_
  rintro e w1 ⟨rfl, s1, b1⟩
  have A1 : Hid (SegV w1 w.heap.size 45 n 11 (fun i j => pcell (F i) j) ∧ Below w.heap.size w w1) := ⟨s1, b1⟩
  clear s1 b1
  go_wp2_with fail
  refine (sflip_some w.heap.size 0 n n F w1 hn4 (fun i hi j hj => by have h := A1.out.1.cell hi hj; simpa using h)).mono ?_
  rintro e w2 ⟨Gs, cs, rfl, r1, r2, r3⟩
  have A2 : Hid (SegV w2 Gs 45 n 11 (fun i j => pcell (flip F n i) j) ∧ Below w.heap.size w w2) := ⟨r2, A1.out.2.trans (r3.mono A1.out.2.size)⟩
  clear r1 r2 r3 A1
  go_wp2_with fail
  refine (toPss_any (H.out.later A2.out.2) hn3).mono ?_
  rintro e w3 ⟨rfl, s3, b3⟩
  have A3 : Hid (SegV w3 Gs 45 n 11 (fun i j => pcell (flip F n i) j) ∧ Below w.heap.size w w3 ∧ SegV w3 w2.heap.size 45 n 11 (fun i j => pcell (F i) j) ∧ Gs < w2.heap.size ∧ w.heap.size ≤ w2.heap.size) := ⟨A2.out.1.below b3, A2.out.2.trans (b3.mono A2.out.2.size), s3, A2.out.1.lt, A2.out.2.size⟩
  clear s3 b3 A2
  go_wp2_with fail
  refine (iflip_some w2.heap.size 0 n n F w3 hn4 (fun i hi j hj => by have h := A3.out.2.2.1.cell hi hj; simpa using h)).mono ?_
  rintro e w4 ⟨Gi, ci, rfl, r1, r2, r3⟩
  have A4 : Hid (SegV w4 Gs 45 n 11 (fun i j => pcell (flip F n i) j) ∧ Below w.heap.size w w4 ∧ SegV w4 w2.heap.size 45 n 11 (fun i j => pcell (F i) j) ∧ SegV w4 Gi 45 n 11 (fun i j => pcell (flip F n i) j) ∧ Gs < w2.heap.size ∧ w2.heap.size < Gi ∧ w.heap.size ≤ w2.heap.size) :=
    ⟨A3.out.1.below r3, A3.out.2.1.trans (r3.mono A3.out.2.1.size), A3.out.2.2.1.below r3, r2, A3.out.2.2.2.1, by have := A3.out.2.2.1.lt; omega, A3.out.2.2.2.2⟩
  clear r1 r2 r3 A3
  go_wp2_with fail
  refine (eqPss_same Gi ci Gs cs n (flip F n) w4 hn5 A4.out.2.2.2.1 A4.out.1).mono ?_
  rintro e w5 ⟨rfl, b5⟩
  have A5 : Hid (SegV w5 Gs 45 n 11 (fun i j => pcell (flip F n i) j) ∧ Below w.heap.size w w5 ∧ SegV w5 w2.heap.size 45 n 11 (fun i j => pcell (F i) j) ∧ SegV w5 Gi 45 n 11 (fun i j => pcell (flip F n i) j) ∧ Gs < w2.heap.size ∧ w2.heap.size < Gi ∧ w.heap.size ≤ w2.heap.size) :=
    ⟨A4.out.1.below b5, A4.out.2.1.trans (b5.mono A4.out.2.1.size), A4.out.2.2.1.below b5, A4.out.2.2.2.1.below b5, A4.out.2.2.2.2⟩
  clear b5 A4
  go_wp2_with fail
  refine (toPss_any (H.out.later A5.out.2.1) hn3).mono ?_
  rintro e w6 ⟨rfl, s6, b6⟩
  have A6 : Hid (SegV w6 Gs 45 n 11 (fun i j => pcell (flip F n i) j) ∧ Below w.heap.size w w6 ∧ SegV w6 w2.heap.size 45 n 11 (fun i j => pcell (F i) j) ∧ SegV w6 Gi 45 n 11 (fun i j => pcell (flip F n i) j) ∧ (Gs < w2.heap.size ∧ w2.heap.size < Gi ∧ w.heap.size ≤ w2.heap.size) ∧ SegV w6 w5.heap.size 45 n 11 (fun i j => pcell (F i) j)) :=
    ⟨A5.out.1.below b6, A5.out.2.1.trans (b6.mono A5.out.2.1.size), A5.out.2.2.1.below b6, A5.out.2.2.2.1.below b6, A5.out.2.2.2.2, s6⟩
  clear s6 b6 A5
  go_wp2_with fail
  refine (eqPss_same w2.heap.size n w5.heap.size n n F w6 hn5 A6.out.2.2.1 A6.out.2.2.2.2.2).mono ?_
  rintro e w7 ⟨rfl, b7⟩
  have A7 : Hid (SegV w7 Gs 45 n 11 (fun i j => pcell (flip F n i) j) ∧ Below w.heap.size w w7 ∧ SegV w7 w2.heap.size 45 n 11 (fun i j => pcell (F i) j) ∧ SegV w7 Gi 45 n 11 (fun i j => pcell (flip F n i) j) ∧ (Gs < w2.heap.size ∧ w2.heap.size < Gi ∧ w.heap.size ≤ w2.heap.size)) :=
    ⟨A6.out.1.below b7, A6.out.2.1.trans (b7.mono A6.out.2.1.size), A6.out.2.2.1.below b7, A6.out.2.2.2.1.below b7, A6.out.2.2.2.2.1⟩
  clear b7 A6
  go_wp2_with fail
  refine (markPs_some w2.heap.size n n 1 _ w.heap.size w w7 hn2 (by omega) A7.out.2.2.1 A7.out.2.1 A7.out.2.2.2.2.2.2).mono ?_
  rintro e w8 ⟨rfl, _, b8, o8, z8⟩
  have A8 : Hid (SegV w8 Gs 45 n 11 (fun i j => pcell (flip F n i) j) ∧ Below w.heap.size w w8 ∧ SegV w8 Gi 45 n 11 (fun i j => pcell (flip F n i) j) ∧ (Gs < w2.heap.size ∧ w2.heap.size < Gi ∧ w.heap.size ≤ w2.heap.size)) :=
    ⟨A7.out.1.of_block (o8 _ (by have := A7.out.2.2.2.2; omega)), b8, A7.out.2.2.2.1.of_block (o8 _ (by have := A7.out.2.2.2.2; omega)), A7.out.2.2.2.2⟩
  clear b8 o8 z8 A7
  have hm0 : ¬ (mK 1 n < 0) := by unfold mK; omega
  have hm1 : 0 ≤ mK 1 n := by unfold mK; omega
  have hm2 : mK 1 n ≤ 50000000 := by unfold mK; omega
  generalize hmk : mK 1 n = M at hm0 hm1 hm2 ⊢
  have HM : Hid (mK 1 n = M) := hmk
  clear hmk
  go_wp2_with fail
  refine (eqPss_same Gi ci Gs cs n (flip F n) w8 hn5 A8.out.2.2.1 A8.out.1).mono ?_
  rintro e w9 ⟨rfl, b9⟩
  have A9 : Hid (SegV w9 Gs 45 n 11 (fun i j => pcell (flip F n i) j) ∧ Below w.heap.size w w9 ∧ SegV w9 Gi 45 n 11 (fun i j => pcell (flip F n i) j) ∧ (Gs < w2.heap.size ∧ w2.heap.size < Gi ∧ w.heap.size ≤ w2.heap.size)) :=
    ⟨A8.out.1.below b9, A8.out.2.1.trans (b9.mono A8.out.2.1.size), A8.out.2.2.1.below b9, A8.out.2.2.2⟩
  clear b9 A8
  go_wp2_with fail
  refine (markPs_some Gi n ci 1 _ w.heap.size w w9 hn2 (by omega) A9.out.2.2.1 A9.out.2.1 (by have := A9.out.2.2.2; omega)).mono ?_
  rintro e w10 ⟨rfl, s10, b10, o10, z10⟩
  have A10 : Hid (SegV w10 Gs 45 n 11 (fun i j => pcell (flip F n i) j) ∧ Below w.heap.size w w10 ∧ SegV w10 Gi 45 n 11 (fun i j => pcell (mps (mK 1 i)) j)) :=
    ⟨A9.out.1.of_block (o10 _ (by have := A9.out.2.2.2; omega)), b10, s10⟩
  clear s10 b10 o10 z10 A9
  rw [HM.out]
  go_wp2_with fail
  refine (heldPs_some Gi n ci 1 w10 hn2 (by omega) A10.out.2.2).mono ?_
  rintro e w11 ⟨rfl, rfl⟩
  rw [HM.out]
  go_wp2_with fail
  refine (toPss_any (H.out.later A10.out.2.1) hn3).mono ?_
  rintro e w11 ⟨rfl, s11, b11⟩
  have A11 : Hid (SegV w11 Gs 45 n 11 (fun i j => pcell (flip F n i) j) ∧ Below w.heap.size w w11 ∧ SegV w11 Gi 45 n 11 (fun i j => pcell (mps (mK 1 i)) j) ∧ SegV w11 w10.heap.size 45 n 11 (fun i j => pcell (F i) j)) :=
    ⟨A10.out.1.below b11, A10.out.2.1.trans (b11.mono A10.out.2.1.size), A10.out.2.2.below b11, s11⟩
  clear s11 b11 A10
  go_wp2_with fail
  refine (iflip_some w10.heap.size 0 n n F w11 hn4 (fun i hi j hj => by have h := A11.out.2.2.2.cell hi hj; simpa using h)).mono ?_
  rintro e w12 ⟨Gh, ch, rfl, r1, r2, r3⟩
  have A12 : Hid (SegV w12 Gs 45 n 11 (fun i j => pcell (flip F n i) j) ∧ Below w.heap.size w w12 ∧ SegV w12 Gi 45 n 11 (fun i j => pcell (mps (mK 1 i)) j) ∧ SegV w12 Gh 45 n 11 (fun i j => pcell (flip F n i) j)) :=
    ⟨A11.out.1.below r3, A11.out.2.1.trans (r3.mono A11.out.2.1.size), A11.out.2.2.1.below r3, r2⟩
  clear r1 r2 r3 A11
  go_wp2_with fail
  refine (eqPss_same Gh ch Gs cs n (flip F n) w12 hn5 A12.out.2.2.2 A12.out.1).mono ?_
  rintro e w13 ⟨rfl, b13⟩
  have A13 : Hid (Below w.heap.size w w13 ∧ SegV w13 Gi 45 n 11 (fun i j => pcell (mps (mK 1 i)) j)) := ⟨A12.out.2.1.trans (b13.mono A12.out.2.1.size), A12.out.2.2.1.below b13⟩
  clear b13 A12
  go_wp2_with fail
  refine (heldPs_some Gi n ci 1 w13 hn2 (by omega) A13.out.2).mono ?_
  rintro e w14 ⟨rfl, rfl⟩
  rw [HM.out]
  go_wp2
  go_ret
  exact ⟨rfl, A13.out.1⟩


set_option maxRecDepth 100000 in
theorem lifted (os : Os) (started : os.Started) (H : Type) (enc : TypeId × Value → H) :
    ReturnsInHanded {} Try.checked os 8 .any (Rows.fnExactFlipLensSpec.pre6 enc Try.prog Try.f8 Rows.fnExactFlipLensRow.domain false) (Rows.fnExactFlipLensSpec.post enc Try.prog Try.f8 false true false false) := by
  refine returnsInHanded_of_change (C := Try.checked) own started (by kernel_rfl) Try.func8
    (ChangeSpec.witness6 (enc := enc) (C := Try.checked) false ⟨#[], #[.slice none 0 0], []⟩ 8 (by kernel_rfl) (by kernel_rfl) (by kernel_rfl) (by kernel_rfl)) ?_
  intro W base args ds gs before hval0 hW hcnd _
  have hval : ∀ (j : Nat) t v, Try.f8.params[j]? = some t → args[j]? = some v → Value.okWide Try.prog W .any base t v := hval0
  have hW' := hW
  obtain ⟨p, q, hA0, hV, rfl, hfz, hnd⟩ := hW
  have hA : DataW.TrodAll enc Try.prog W 0 (fun _ => true) true Try.f8.params.toList args.toList ds p := hA0
  rw [Try.params8] at hA hval
  obtain ⟨v0, vs0, d0, ds0, p0, q0, hargs, rfl, rfl, h0, r0⟩ := trodAll_cons hA
  obtain ⟨rfl, rfl, rfl⟩ := trodAll_nil r0
  obtain rfl : args = #[v0] := by cases args; simp_all
  obtain ⟨rfl, rfl⟩ := trodVars_none hV
  have k0 := h0
  have lt0 : ∀ x ∈ p0, x.block < W.heap.size := by obtain ⟨m, hm⟩ := k0; exact DataW.trod_lt m _ _ _ hm
  obtain ⟨n0, F0, R0, nb0⟩ := open_ps (hval 0 66 v0 rfl rfl) h0
  clear hA0 hval0
  refine (walk R0 nb0).mono fun e W' ⟨he, bel⟩ => ?_
  subst he
  exact ⟨_, rfl, _, _, _, [], _, [], hW', trodAll_mk1 (shut_bool Try.underlying4 _), (trodAll_cons_mk (Below.trod laidOut (by kernel_rfl) (of_decide_eq_true (by kernel_rfl)) k0 bel lt0) trodAll_mk0), rfl, bel.frame _, fun h => by cases h⟩

theorem over : Rows.fnExactFlipLensRow.holds Try.pinned (OpenSpec.ofChange Rows.fnExactFlipLensSpec) :=
  OpenClaim.holds_of_wide 8 Try.f8 rfl rfl rfl rfl rfl rfl rfl ⟨rfl, rfl, rfl, rfl, rfl⟩ rfl rfl rfl rfl rfl (by kernel_rfl) Try.func8 (by kernel_rfl)
    (of_decide_eq_true (by kernel_rfl)) (by unfold Func.isWrapper; first | (rw [if_pos (by decide +kernel)]; kernel_rfl) | (rw [if_neg (by decide +kernel)]; exact ⟨rfl, rfl⟩))
    (fun os started H enc _ => lifted os started H enc)
end Go.Proofs.Ytfdgnafakjlhaaa.LawFlipLens
namespace Go.Proofs.Ytfdgnafakjlhaaa
theorem flipLens_holds : Rows.FnExactFlipLensSaid := LawFlipLens.over
#print axioms flipLens_holds
end Go.Proofs.Ytfdgnafakjlhaaa
