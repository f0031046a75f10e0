/- At every argument the program's TransposeRects answers as the specification, where the law's own bound on the sizes does not answer first; what it answers owns its memory; nothing that was there is changed. -/
import Derived.Test.YtclnmikneomccaaMv
import Derived.Test.YtclnmikneomccaaRw
import Derived.Handy
import Derived.Deep.RegionHeld3
import Derived.Deep.DeepCutAuto
namespace Go.Proofs.Ytclnmikneomccaa.LawTransposeRects
open Go.ChangeShapes Go.WideShapes Go.ChangeAt Go.RowKit Go.Joins
set_option linter.unusedVariables false

set_option maxHeartbeats 4000000 in
set_option maxRecDepth 20000 in
theorem walk {w : World} {v0 : Value} {n0 : Nat} {F0 : Nat → R.G} (h0 : R.Rsp w v0 n0 F0) (nb0 : n0 ≤ 9223372036854775807) (rb0 : ∀ i, i < n0 → (F0 i).b64) :
    Calls Try.prog 8 #[v0] w fun e w' => e = .returned (.bool true) ∧ Below w.heap.size w w' := by
  obtain ⟨va0, vc0, ev0⟩ : ∃ ao cap, v0 = .slice ao n0 cap := h0.form
  subst ev0
  have H0 : Hid (R.Rsp w (.slice va0 n0 vc0) n0 F0) := h0
  have RB0 : Hid (∀ i, i < n0 → (F0 i).b64) := rb0
  clear h0 rb0
  have D_w : Hid (Below w.heap.size w w) := Below.refl _ _
  have zw : w.heap.size ≤ w.heap.size := Nat.le_refl _
  go_enter Try.func8, Try.ntmps8
  go_wp2_with fail
  refine (R.szSp_any _ _ _ 1048576 _ (by omega) (by omega) nb0).mono ?_
  rintro e wq0 ⟨rfl, ewq⟩
  obtain rfl := ewq
  obtain ⟨left0, hleft0⟩ : ∃ l, l = (if 1048576 - (n0 : Int) < 0 then -1 else 1048576 - (n0 : Int)) := ⟨_, rfl⟩
  rw [← hleft0]
  by_cases hr0 : left0 < 0
  · clear hleft0
    go_wp2
    go_ret
    exact ⟨rfl, D_w.out⟩
  have hs0 : left0 ≤ 1048576 - (n0 : Int) ∧ 1048576 - (n0 : Int) ≤ left0 := by split at hleft0 <;> omega
  have hm0 : (n0 : Int) ≤ 1048576 := by omega
  clear hleft0
  go_wp2_with fail
  refine (R.toSpans_any (H0.out.later D_w.out) (by omega)).mono ?_
  rintro e w1 ⟨rfl, hmo, hbb⟩
  have zw1 : w.heap.size ≤ w1.heap.size := hbb.size
  replace D_w : Hid (Below w.heap.size w w1) := D_w.out.trans (hbb.mono (by omega))
  clear hbb
  have O_c0 : Hid (R.OwS w.heap.size w1.heap.size w1 w.heap.size n0 F0) := hmo
  clear hmo
  go_wp2_with fail
  refine (sTurn_any O_c0.out.seg (by omega)).mono ?_
  rintro e w2 ⟨sv, rfl, hoo, hbb⟩
  obtain ⟨sa, sc, esv⟩ : ∃ ao cap, sv = .slice ao n0 cap := hoo.shape
  subst esv
  have RS : Hid (R.OwJ w1.heap.size w2.heap.size w2 (.slice sa n0 sc) n0 (fun i => tpr (F0 i))) := hoo
  clear hoo
  have zw2 : w1.heap.size ≤ w2.heap.size := hbb.size
  replace O_c0 : Hid (R.OwS w.heap.size w1.heap.size w2 w.heap.size n0 F0) := O_c0.out.keep (keep_below hbb (by omega))
  replace D_w : Hid (Below w.heap.size w w2) := D_w.out.trans (hbb.mono (by omega))
  clear hbb
  clear O_c0
  go_wp2_with fail
  have D_w2 : Hid (Below w2.heap.size w2 w2) := Below.refl _ _
  refine (R.toSpans_any (H0.out.later D_w.out) (by omega)).mono ?_
  rintro e w3 ⟨rfl, hmo, hbb⟩
  have zw3 : w2.heap.size ≤ w3.heap.size := hbb.size
  replace D_w : Hid (Below w.heap.size w w3) := D_w.out.trans (hbb.mono (by omega))
  replace D_w2 : Hid (Below w2.heap.size w2 w3) := D_w2.out.trans (hbb.mono (by omega))
  clear hbb
  have O_x0 : Hid (R.OwS w2.heap.size w3.heap.size w3 w2.heap.size n0 F0) := hmo
  clear hmo
  go_wp2_with fail
  refine (iTurn_any O_x0.out.seg (by omega)).mono ?_
  rintro e w4 ⟨gv, rfl, hoo, hbb⟩
  obtain ⟨ga, gc, egv⟩ : ∃ ao cap, gv = .slice ao n0 cap := hoo.shape
  subst egv
  have zw4 : w3.heap.size ≤ w4.heap.size := hbb.size
  replace O_x0 : Hid (R.OwS w2.heap.size w3.heap.size w4 w2.heap.size n0 F0) := O_x0.out.keep (keep_below hbb (by omega))
  replace D_w : Hid (Below w.heap.size w w4) := D_w.out.trans (hbb.mono (by omega))
  replace D_w2 : Hid (Below w2.heap.size w2 w4) := D_w2.out.trans (hbb.mono (by omega))
  have O_g : Hid (R.OwJ w3.heap.size w4.heap.size w4 (.slice ga n0 gc) n0 (fun i => tpr (F0 i))) := hoo
  clear hoo hbb
  go_wp2_with fail
  refine (R.eqJ_any O_g.out (RS.out.later D_w2.out) (by omega)).mono ?_
  rintro e w5 ⟨rfl, hbb⟩
  have zw5 : w4.heap.size ≤ w5.heap.size := hbb.size
  replace O_x0 : Hid (R.OwS w2.heap.size w3.heap.size w5 w2.heap.size n0 F0) := O_x0.out.keep (keep_below hbb (by omega))
  replace O_g : Hid (R.OwJ w3.heap.size w4.heap.size w5 (.slice ga n0 gc) n0 (fun i => tpr (F0 i))) := O_g.out.keep (keep_below hbb (by omega))
  replace D_w : Hid (Below w.heap.size w w5) := D_w.out.trans (hbb.mono (by omega))
  replace D_w2 : Hid (Below w2.heap.size w2 w5) := D_w2.out.trans (hbb.mono (by omega))
  clear hbb
  go_wp2_with fail
  refine (R.toSpans_any (H0.out.later D_w.out) (by omega)).mono ?_
  rintro e w6 ⟨rfl, hmo, hbb⟩
  have zw6 : w5.heap.size ≤ w6.heap.size := hbb.size
  replace O_x0 : Hid (R.OwS w2.heap.size w3.heap.size w6 w2.heap.size n0 F0) := O_x0.out.keep (keep_below hbb (by omega))
  replace O_g : Hid (R.OwJ w3.heap.size w4.heap.size w6 (.slice ga n0 gc) n0 (fun i => tpr (F0 i))) := O_g.out.keep (keep_below hbb (by omega))
  replace D_w : Hid (Below w.heap.size w w6) := D_w.out.trans (hbb.mono (by omega))
  replace D_w2 : Hid (Below w2.heap.size w2 w6) := D_w2.out.trans (hbb.mono (by omega))
  clear hbb
  have O_q : Hid (R.OwS w5.heap.size w6.heap.size w6 w5.heap.size n0 F0) := hmo
  clear hmo
  go_wp2_with fail
  refine (R.eqSpans_any O_x0.out O_q.out (by omega)).mono ?_
  rintro e w7 ⟨rfl, hbb⟩
  clear O_q
  have zw7 : w6.heap.size ≤ w7.heap.size := hbb.size
  replace O_x0 : Hid (R.OwS w2.heap.size w3.heap.size w7 w2.heap.size n0 F0) := O_x0.out.keep (keep_below hbb (by omega))
  replace O_g : Hid (R.OwJ w3.heap.size w4.heap.size w7 (.slice ga n0 gc) n0 (fun i => tpr (F0 i))) := O_g.out.keep (keep_below hbb (by omega))
  replace D_w : Hid (Below w.heap.size w w7) := D_w.out.trans (hbb.mono (by omega))
  replace D_w2 : Hid (Below w2.heap.size w2 w7) := D_w2.out.trans (hbb.mono (by omega))
  clear hbb
  go_wp2_with fail
  refine (R.markSpans_any 1 O_x0.out (by omega) (by omega) (by omega)).mono ?_
  rintro e w8 ⟨rfl, hww⟩
  have zw8 : w7.heap.size ≤ w8.heap.size := hww.below.size
  replace O_g : Hid (R.OwJ w3.heap.size w4.heap.size w8 (.slice ga n0 gc) n0 (fun i => tpr (F0 i))) := O_g.out.keep (keep_apart hww (by omega) (by omega))
  replace D_w : Hid (Below w.heap.size w w8) := D_w.out.trans (hww.below.mono (by omega))
  replace D_w2 : Hid (Below w2.heap.size w2 w8) := D_w2.out.trans (hww.below.mono (by omega))
  clear hww O_x0
  obtain ⟨k1, hk⟩ : ∃ k : Int, k = R.mSp 1 n0 := ⟨_, rfl⟩
  have hk1a : 0 ≤ k1 := by rw [hk]; unfold R.mSp; omega
  have hk1b : k1 ≤ 1 + 8000000 := by rw [hk]; unfold R.mSp; omega
  rw [← hk]
  clear hk
  go_wp2_with fail
  refine (R.eqJ_any O_g.out (RS.out.later D_w2.out) (by omega)).mono ?_
  rintro e w9 ⟨rfl, hbb⟩
  have zw9 : w8.heap.size ≤ w9.heap.size := hbb.size
  replace O_g : Hid (R.OwJ w3.heap.size w4.heap.size w9 (.slice ga n0 gc) n0 (fun i => tpr (F0 i))) := O_g.out.keep (keep_below hbb (by omega))
  replace D_w : Hid (Below w.heap.size w w9) := D_w.out.trans (hbb.mono (by omega))
  replace D_w2 : Hid (Below w2.heap.size w2 w9) := D_w2.out.trans (hbb.mono (by omega))
  clear hbb
  go_wp2_with fail
  refine (R.markJ_any O_g.out (by omega) (by omega) (by omega)).mono ?_
  rintro e w10 ⟨r, rfl, hmk, hww⟩
  have hr0 : 0 ≤ r := hmk.pos
  have zw10 : w9.heap.size ≤ w10.heap.size := hww.below.size
  replace D_w : Hid (Below w.heap.size w w10) := D_w.out.trans (hww.below.mono (by omega))
  replace D_w2 : Hid (Below w2.heap.size w2 w10) := D_w2.out.trans (hww.below.mono (by omega))
  replace O_g : Hid (R.MkJ w3.heap.size w4.heap.size w10 (.slice ga n0 gc) n0 r) := hmk
  clear hmk hww
  go_wp2_with fail
  refine (R.heldJ_any O_g.out (by omega)).mono ?_
  rintro e w11 ⟨rfl, hbb⟩
  have zw11 : w10.heap.size ≤ w11.heap.size := hbb.size
  replace O_g : Hid (R.MkJ w3.heap.size w4.heap.size w11 (.slice ga n0 gc) n0 r) := O_g.out.keep (keep_below hbb (by omega))
  replace D_w : Hid (Below w.heap.size w w11) := D_w.out.trans (hbb.mono (by omega))
  replace D_w2 : Hid (Below w2.heap.size w2 w11) := D_w2.out.trans (hbb.mono (by omega))
  clear hbb
  go_wp2_with fail
  refine (R.toSpans_any (H0.out.later D_w.out) (by omega)).mono ?_
  rintro e w12 ⟨rfl, hmo, hbb⟩
  have zw12 : w11.heap.size ≤ w12.heap.size := hbb.size
  replace O_g : Hid (R.MkJ w3.heap.size w4.heap.size w12 (.slice ga n0 gc) n0 r) := O_g.out.keep (keep_below hbb (by omega))
  replace D_w : Hid (Below w.heap.size w w12) := D_w.out.trans (hbb.mono (by omega))
  replace D_w2 : Hid (Below w2.heap.size w2 w12) := D_w2.out.trans (hbb.mono (by omega))
  clear hbb
  have O_h0 : Hid (R.OwS w11.heap.size w12.heap.size w12 w11.heap.size n0 F0) := hmo
  clear hmo
  go_wp2_with fail
  refine (iTurn_any O_h0.out.seg (by omega)).mono ?_
  rintro e w13 ⟨hv, rfl, hoo, hbb⟩
  obtain ⟨ha, hc, ehv⟩ : ∃ ao cap, hv = .slice ao n0 cap := hoo.shape
  subst ehv
  have zw13 : w12.heap.size ≤ w13.heap.size := hbb.size
  replace O_g : Hid (R.MkJ w3.heap.size w4.heap.size w13 (.slice ga n0 gc) n0 r) := O_g.out.keep (keep_below hbb (by omega))
  replace O_h0 : Hid (R.OwS w11.heap.size w12.heap.size w13 w11.heap.size n0 F0) := O_h0.out.keep (keep_below hbb (by omega))
  replace D_w : Hid (Below w.heap.size w w13) := D_w.out.trans (hbb.mono (by omega))
  replace D_w2 : Hid (Below w2.heap.size w2 w13) := D_w2.out.trans (hbb.mono (by omega))
  have O_h : Hid (R.OwJ w12.heap.size w13.heap.size w13 (.slice ha n0 hc) n0 (fun i => tpr (F0 i))) := hoo
  clear hoo hbb
  go_wp2_with fail
  refine (R.eqJ_any O_h.out (RS.out.later D_w2.out) (by omega)).mono ?_
  rintro e w14 ⟨rfl, hbb⟩
  have zw14 : w13.heap.size ≤ w14.heap.size := hbb.size
  replace O_g : Hid (R.MkJ w3.heap.size w4.heap.size w14 (.slice ga n0 gc) n0 r) := O_g.out.keep (keep_below hbb (by omega))
  replace O_h0 : Hid (R.OwS w11.heap.size w12.heap.size w14 w11.heap.size n0 F0) := O_h0.out.keep (keep_below hbb (by omega))
  replace O_h : Hid (R.OwJ w12.heap.size w13.heap.size w14 (.slice ha n0 hc) n0 (fun i => tpr (F0 i))) := O_h.out.keep (keep_below hbb (by omega))
  replace D_w : Hid (Below w.heap.size w w14) := D_w.out.trans (hbb.mono (by omega))
  replace D_w2 : Hid (Below w2.heap.size w2 w14) := D_w2.out.trans (hbb.mono (by omega))
  clear hbb
  go_wp2_with fail
  refine (R.heldJ_any O_g.out (by omega)).mono ?_
  rintro e w15 ⟨rfl, hbb⟩
  have zw15 : w14.heap.size ≤ w15.heap.size := hbb.size
  replace O_g : Hid (R.MkJ w3.heap.size w4.heap.size w15 (.slice ga n0 gc) n0 r) := O_g.out.keep (keep_below hbb (by omega))
  replace O_h0 : Hid (R.OwS w11.heap.size w12.heap.size w15 w11.heap.size n0 F0) := O_h0.out.keep (keep_below hbb (by omega))
  replace O_h : Hid (R.OwJ w12.heap.size w13.heap.size w15 (.slice ha n0 hc) n0 (fun i => tpr (F0 i))) := O_h.out.keep (keep_below hbb (by omega))
  replace D_w : Hid (Below w.heap.size w w15) := D_w.out.trans (hbb.mono (by omega))
  replace D_w2 : Hid (Below w2.heap.size w2 w15) := D_w2.out.trans (hbb.mono (by omega))
  clear hbb
  go_wp2
  go_ret
  exact ⟨rfl, D_w.out⟩

set_option maxRecDepth 100000 in
theorem lifted (os : Os) (started : os.Started) (H : Type) (enc : TypeId × Value → H) :
    ReturnsInHanded {} Try.checked os 8 .any (Rows.fnExactTransposeRectsSpec.pre6 enc Try.prog Try.f8 Rows.fnExactTransposeRectsRow.domain false) (Rows.fnExactTransposeRectsSpec.post enc Try.prog Try.f8 false true false false) := by
  refine returnsInHanded_of_change (C := Try.checked) own started (by kernel_rfl) Try.func8
    (ChangeSpec.witness6 (enc := enc) (C := Try.checked) false ⟨#[], #[.slice none 0 0], []⟩ 8 (by kernel_rfl) (by kernel_rfl) (by kernel_rfl) (by kernel_rfl)) ?_
  intro W base args ds gs before hval0 hW hcnd _
  have hval : ∀ (j : Nat) t v, Try.f8.params[j]? = some t → args[j]? = some v → Value.okWide Try.prog W .any base t v := hval0
  have hW' := hW
  obtain ⟨p, q, hA0, hV, rfl, hfz, hnd⟩ := hW
  have hA : DataW.TrodAll enc Try.prog W 0 (fun _ => true) true Try.f8.params.toList args.toList ds p := hA0
  rw [Try.params8] at hA hval
  obtain ⟨v0, vs0, d0, ds0, p0, q0, hargs, rfl, rfl, h0, r0⟩ := trodAll_cons hA
  obtain ⟨rfl, rfl, rfl⟩ := trodAll_nil r0
  obtain rfl : args = #[v0] := by cases args; simp_all
  obtain ⟨rfl, rfl⟩ := trodVars_none hV
  have k0 := h0
  have lt0 : ∀ x ∈ p0, x.block < W.heap.size := by obtain ⟨m, hm⟩ := k0; exact DataW.trod_lt m _ _ _ hm
  obtain ⟨n0, F0, R0, nb0, rb0⟩ := R.open_spans (hval 0 22 v0 rfl rfl) h0
  clear hA0 hval0
  refine (walk R0 nb0 rb0).mono fun e W' ⟨he, bel⟩ => ?_
  subst he
  exact ⟨_, rfl, _, _, _, [], _, [], hW', trodAll_mk1 (shut_bool Try.underlying4 _), (trodAll_cons_mk (Below.trod laidOut (by kernel_rfl) (of_decide_eq_true (by kernel_rfl)) k0 bel lt0) trodAll_mk0), rfl, bel.frame _, fun h => by cases h⟩

theorem over : Rows.fnExactTransposeRectsRow.holds Try.pinned (OpenSpec.ofChange Rows.fnExactTransposeRectsSpec) :=
  OpenClaim.holds_of_wide 8 Try.f8 rfl rfl rfl rfl rfl rfl rfl ⟨rfl, rfl, rfl, rfl, rfl⟩ rfl rfl rfl rfl rfl (by kernel_rfl) Try.func8 (by kernel_rfl)
    (of_decide_eq_true (by kernel_rfl)) (by unfold Func.isWrapper; first | (rw [if_pos (by decide +kernel)]; kernel_rfl) | (rw [if_neg (by decide +kernel)]; exact ⟨rfl, rfl⟩))
    (fun os started H enc _ => lifted os started H enc)
end Go.Proofs.Ytclnmikneomccaa.LawTransposeRects
namespace Go.Proofs.Ytclnmikneomccaa
theorem transposeRects_holds : Rows.FnExactTransposeRectsSaid := LawTransposeRects.over
#print axioms transposeRects_holds
end Go.Proofs.Ytclnmikneomccaa
