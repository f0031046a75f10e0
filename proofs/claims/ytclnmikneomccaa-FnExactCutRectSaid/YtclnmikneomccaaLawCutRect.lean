/- At every argument the program's CutRect answers as the specification, where the law's own bound on the sizes does not answer first; what it answers owns its memory; nothing that was there is changed. -/
import Derived.Test.YtclnmikneomccaaCs
import Derived.Test.YtclnmikneomccaaLx
import Derived.Test.YtclnmikneomccaaRw
import Derived.Handy
import Derived.Deep.RegionHeld3
import Derived.Deep.DeepCutAuto
namespace Go.Proofs.Ytclnmikneomccaa.LawCutRect
open Go.ChangeShapes Go.WideShapes Go.ChangeAt Go.RowKit Go.Joins
set_option linter.unusedVariables false

set_option maxHeartbeats 4000000 in
set_option maxRecDepth 20000 in
theorem walk {w : World} {v0 : Value} {n0 : Nat} {F0 : Nat → R.G} (h0 : R.Rsp w v0 n0 F0) (nb0 : n0 ≤ 9223372036854775807) (rb0 : ∀ i, i < n0 → (F0 i).b64) (n1 : Int) (na1 : -9223372036854775808 ≤ n1) (nz1 : n1 ≤ 9223372036854775807) (n2 : Int) (na2 : -9223372036854775808 ≤ n2) (nz2 : n2 ≤ 9223372036854775807) :
    Calls Try.prog 9 #[v0, .int .i64 n1, .int .i64 n2] w fun e w' => e = .returned (.bool true) ∧ Below w.heap.size w w' := by
  obtain ⟨va0, vc0, ev0⟩ : ∃ ao cap, v0 = .slice ao n0 cap := h0.form
  subst ev0
  have H0 : Hid (R.Rsp w (.slice va0 n0 vc0) n0 F0) := h0
  have RB0 : Hid (∀ i, i < n0 → (F0 i).b64) := rb0
  clear h0 rb0
  have D_w : Hid (Below w.heap.size w w) := Below.refl _ _
  have zw : w.heap.size ≤ w.heap.size := Nat.le_refl _
  obtain ⟨M, hcm⟩ : ∃ M, cutN F0 n0 n1 n2 = M := ⟨_, rfl⟩
  obtain ⟨T, hct⟩ : ∃ T, cutS F0 n0 n1 n2 = T := ⟨_, rfl⟩
  have HCC : Hid (cutN F0 n0 n1 n2 = M ∧ cutS F0 n0 n1 n2 = T ∧ M ≤ n0 + 1) := ⟨hcm, hct, by rw [← hcm]; unfold cutN; split <;> omega⟩
  clear hcm hct
  go_enter Try.func9, Try.ntmps9
  go_wp2_with fail
  refine (R.szSp_any _ _ _ 1048576 _ (by omega) (by omega) nb0).mono ?_
  rintro e wq0 ⟨rfl, ewq⟩
  obtain rfl := ewq
  obtain ⟨left0, hleft0⟩ : ∃ l, l = (if 1048576 - (n0 : Int) < 0 then -1 else 1048576 - (n0 : Int)) := ⟨_, rfl⟩
  rw [← hleft0]
  by_cases hr0 : left0 < 0
  · clear hleft0
    go_wp2
    go_ret
    exact ⟨rfl, D_w.out⟩
  have hs0 : left0 ≤ 1048576 - (n0 : Int) ∧ 1048576 - (n0 : Int) ≤ left0 := by split at hleft0 <;> omega
  have hm0 : (n0 : Int) ≤ 1048576 := by omega
  clear hleft0
  have hMb : M ≤ 2097152 := by have := HCC.out.2.2; omega
  go_wp2_with fail
  refine (R.toSpans_any (H0.out.later D_w.out) (by omega)).mono ?_
  rintro e w1 ⟨rfl, hmo, hbb⟩
  have zw1 : w.heap.size ≤ w1.heap.size := hbb.size
  replace D_w : Hid (Below w.heap.size w w1) := D_w.out.trans (hbb.mono (by omega))
  clear hbb
  have O_c0 : Hid (R.OwS w.heap.size w1.heap.size w1 w.heap.size n0 F0) := hmo
  clear hmo
  go_wp2_with fail
  refine ((HCC.out.1 ▸ HCC.out.2.1 ▸ sCut_any (c := n1) (x := n2) O_c0.out.seg (by omega))).mono ?_
  rintro e w2 ⟨sv, rfl, hoo, hbb⟩
  obtain ⟨sa, sc, esv⟩ : ∃ ao cap, sv = .slice ao M cap := hoo.shape
  subst esv
  have RS : Hid (R.OwJ w1.heap.size w2.heap.size w2 (.slice sa M sc) M T) := hoo
  clear hoo
  have zw2 : w1.heap.size ≤ w2.heap.size := hbb.size
  replace O_c0 : Hid (R.OwS w.heap.size w1.heap.size w2 w.heap.size n0 F0) := O_c0.out.keep (keep_below hbb (by omega))
  replace D_w : Hid (Below w.heap.size w w2) := D_w.out.trans (hbb.mono (by omega))
  clear hbb
  clear O_c0
  go_wp2_with fail
  have D_w2 : Hid (Below w2.heap.size w2 w2) := Below.refl _ _
  refine (R.toSpans_any (H0.out.later D_w.out) (by omega)).mono ?_
  rintro e w3 ⟨rfl, hmo, hbb⟩
  have zw3 : w2.heap.size ≤ w3.heap.size := hbb.size
  replace D_w : Hid (Below w.heap.size w w3) := D_w.out.trans (hbb.mono (by omega))
  replace D_w2 : Hid (Below w2.heap.size w2 w3) := D_w2.out.trans (hbb.mono (by omega))
  clear hbb
  have O_x0 : Hid (R.OwS w2.heap.size w3.heap.size w3 w2.heap.size n0 F0) := hmo
  clear hmo
  go_wp2_with fail
  refine ((HCC.out.1 ▸ HCC.out.2.1 ▸ iCut_any (c := n1) (x := n2) O_x0.out.seg (by omega))).mono ?_
  rintro e w4 ⟨gv, rfl, hoo, hbb⟩
  obtain ⟨ga, gc, egv⟩ : ∃ ao cap, gv = .slice ao M cap := hoo.shape
  subst egv
  have zw4 : w3.heap.size ≤ w4.heap.size := hbb.size
  replace O_x0 : Hid (R.OwS w2.heap.size w3.heap.size w4 w2.heap.size n0 F0) := O_x0.out.keep (keep_below hbb (by omega))
  replace D_w : Hid (Below w.heap.size w w4) := D_w.out.trans (hbb.mono (by omega))
  replace D_w2 : Hid (Below w2.heap.size w2 w4) := D_w2.out.trans (hbb.mono (by omega))
  have O_g : Hid (R.OwJ w3.heap.size w4.heap.size w4 (.slice ga M gc) M T) := hoo
  clear hoo hbb
  go_wp2_with fail
  refine (R.eqJ_any O_g.out (RS.out.later D_w2.out) (by omega)).mono ?_
  rintro e w5 ⟨rfl, hbb⟩
  have zw5 : w4.heap.size ≤ w5.heap.size := hbb.size
  replace O_x0 : Hid (R.OwS w2.heap.size w3.heap.size w5 w2.heap.size n0 F0) := O_x0.out.keep (keep_below hbb (by omega))
  replace O_g : Hid (R.OwJ w3.heap.size w4.heap.size w5 (.slice ga M gc) M T) := O_g.out.keep (keep_below hbb (by omega))
  replace D_w : Hid (Below w.heap.size w w5) := D_w.out.trans (hbb.mono (by omega))
  replace D_w2 : Hid (Below w2.heap.size w2 w5) := D_w2.out.trans (hbb.mono (by omega))
  clear hbb
  go_wp2_with fail
  refine (R.toSpans_any (H0.out.later D_w.out) (by omega)).mono ?_
  rintro e w6 ⟨rfl, hmo, hbb⟩
  have zw6 : w5.heap.size ≤ w6.heap.size := hbb.size
  replace O_x0 : Hid (R.OwS w2.heap.size w3.heap.size w6 w2.heap.size n0 F0) := O_x0.out.keep (keep_below hbb (by omega))
  replace O_g : Hid (R.OwJ w3.heap.size w4.heap.size w6 (.slice ga M gc) M T) := O_g.out.keep (keep_below hbb (by omega))
  replace D_w : Hid (Below w.heap.size w w6) := D_w.out.trans (hbb.mono (by omega))
  replace D_w2 : Hid (Below w2.heap.size w2 w6) := D_w2.out.trans (hbb.mono (by omega))
  clear hbb
  have O_q : Hid (R.OwS w5.heap.size w6.heap.size w6 w5.heap.size n0 F0) := hmo
  clear hmo
  go_wp2_with fail
  refine (R.eqSpans_any O_x0.out O_q.out (by omega)).mono ?_
  rintro e w7 ⟨rfl, hbb⟩
  clear O_q
  have zw7 : w6.heap.size ≤ w7.heap.size := hbb.size
  replace O_x0 : Hid (R.OwS w2.heap.size w3.heap.size w7 w2.heap.size n0 F0) := O_x0.out.keep (keep_below hbb (by omega))
  replace O_g : Hid (R.OwJ w3.heap.size w4.heap.size w7 (.slice ga M gc) M T) := O_g.out.keep (keep_below hbb (by omega))
  replace D_w : Hid (Below w.heap.size w w7) := D_w.out.trans (hbb.mono (by omega))
  replace D_w2 : Hid (Below w2.heap.size w2 w7) := D_w2.out.trans (hbb.mono (by omega))
  clear hbb
  go_wp2_with fail
  refine (R.markSpans_any 1 O_x0.out (by omega) (by omega) (by omega)).mono ?_
  rintro e w8 ⟨rfl, hww⟩
  have zw8 : w7.heap.size ≤ w8.heap.size := hww.below.size
  replace O_g : Hid (R.OwJ w3.heap.size w4.heap.size w8 (.slice ga M gc) M T) := O_g.out.keep (keep_apart hww (by omega) (by omega))
  replace D_w : Hid (Below w.heap.size w w8) := D_w.out.trans (hww.below.mono (by omega))
  replace D_w2 : Hid (Below w2.heap.size w2 w8) := D_w2.out.trans (hww.below.mono (by omega))
  clear hww O_x0
  obtain ⟨k1, hk⟩ : ∃ k : Int, k = R.mSp 1 n0 := ⟨_, rfl⟩
  have hk1a : 0 ≤ k1 := by rw [hk]; unfold R.mSp; omega
  have hk1b : k1 ≤ 1 + 8000000 := by rw [hk]; unfold R.mSp; omega
  rw [← hk]
  clear hk
  go_wp2_with fail
  refine (R.eqJ_any O_g.out (RS.out.later D_w2.out) (by omega)).mono ?_
  rintro e w9 ⟨rfl, hbb⟩
  have zw9 : w8.heap.size ≤ w9.heap.size := hbb.size
  replace O_g : Hid (R.OwJ w3.heap.size w4.heap.size w9 (.slice ga M gc) M T) := O_g.out.keep (keep_below hbb (by omega))
  replace D_w : Hid (Below w.heap.size w w9) := D_w.out.trans (hbb.mono (by omega))
  replace D_w2 : Hid (Below w2.heap.size w2 w9) := D_w2.out.trans (hbb.mono (by omega))
  clear hbb
  go_wp2_with fail
  refine (R.markJ2_any O_g.out (by omega) (by omega) (by omega)).mono ?_
  rintro e w10 ⟨r, rfl, hmk, hww⟩
  have hr0 : 0 ≤ r := hmk.pos
  have zw10 : w9.heap.size ≤ w10.heap.size := hww.below.size
  replace D_w : Hid (Below w.heap.size w w10) := D_w.out.trans (hww.below.mono (by omega))
  replace D_w2 : Hid (Below w2.heap.size w2 w10) := D_w2.out.trans (hww.below.mono (by omega))
  replace O_g : Hid (R.MkJ w3.heap.size w4.heap.size w10 (.slice ga M gc) M r) := hmk
  clear hmk hww
  go_wp2_with fail
  refine (R.heldJ2_any O_g.out (by omega)).mono ?_
  rintro e w11 ⟨rfl, hbb⟩
  have zw11 : w10.heap.size ≤ w11.heap.size := hbb.size
  replace O_g : Hid (R.MkJ w3.heap.size w4.heap.size w11 (.slice ga M gc) M r) := O_g.out.keep (keep_below hbb (by omega))
  replace D_w : Hid (Below w.heap.size w w11) := D_w.out.trans (hbb.mono (by omega))
  replace D_w2 : Hid (Below w2.heap.size w2 w11) := D_w2.out.trans (hbb.mono (by omega))
  clear hbb
  go_wp2_with fail
  refine (R.toSpans_any (H0.out.later D_w.out) (by omega)).mono ?_
  rintro e w12 ⟨rfl, hmo, hbb⟩
  have zw12 : w11.heap.size ≤ w12.heap.size := hbb.size
  replace O_g : Hid (R.MkJ w3.heap.size w4.heap.size w12 (.slice ga M gc) M r) := O_g.out.keep (keep_below hbb (by omega))
  replace D_w : Hid (Below w.heap.size w w12) := D_w.out.trans (hbb.mono (by omega))
  replace D_w2 : Hid (Below w2.heap.size w2 w12) := D_w2.out.trans (hbb.mono (by omega))
  clear hbb
  have O_h0 : Hid (R.OwS w11.heap.size w12.heap.size w12 w11.heap.size n0 F0) := hmo
  clear hmo
  go_wp2_with fail
  refine ((HCC.out.1 ▸ HCC.out.2.1 ▸ iCut_any (c := n1) (x := n2) O_h0.out.seg (by omega))).mono ?_
  rintro e w13 ⟨hv, rfl, hoo, hbb⟩
  obtain ⟨ha, hc, ehv⟩ : ∃ ao cap, hv = .slice ao M cap := hoo.shape
  subst ehv
  have zw13 : w12.heap.size ≤ w13.heap.size := hbb.size
  replace O_g : Hid (R.MkJ w3.heap.size w4.heap.size w13 (.slice ga M gc) M r) := O_g.out.keep (keep_below hbb (by omega))
  replace O_h0 : Hid (R.OwS w11.heap.size w12.heap.size w13 w11.heap.size n0 F0) := O_h0.out.keep (keep_below hbb (by omega))
  replace D_w : Hid (Below w.heap.size w w13) := D_w.out.trans (hbb.mono (by omega))
  replace D_w2 : Hid (Below w2.heap.size w2 w13) := D_w2.out.trans (hbb.mono (by omega))
  have O_h : Hid (R.OwJ w12.heap.size w13.heap.size w13 (.slice ha M hc) M T) := hoo
  clear hoo hbb
  go_wp2_with fail
  refine (R.eqJ_any O_h.out (RS.out.later D_w2.out) (by omega)).mono ?_
  rintro e w14 ⟨rfl, hbb⟩
  have zw14 : w13.heap.size ≤ w14.heap.size := hbb.size
  replace O_g : Hid (R.MkJ w3.heap.size w4.heap.size w14 (.slice ga M gc) M r) := O_g.out.keep (keep_below hbb (by omega))
  replace O_h0 : Hid (R.OwS w11.heap.size w12.heap.size w14 w11.heap.size n0 F0) := O_h0.out.keep (keep_below hbb (by omega))
  replace O_h : Hid (R.OwJ w12.heap.size w13.heap.size w14 (.slice ha M hc) M T) := O_h.out.keep (keep_below hbb (by omega))
  replace D_w : Hid (Below w.heap.size w w14) := D_w.out.trans (hbb.mono (by omega))
  replace D_w2 : Hid (Below w2.heap.size w2 w14) := D_w2.out.trans (hbb.mono (by omega))
  clear hbb
  go_wp2_with fail
  refine (R.heldJ2_any O_g.out (by omega)).mono ?_
  rintro e w15 ⟨rfl, hbb⟩
  have zw15 : w14.heap.size ≤ w15.heap.size := hbb.size
  replace O_g : Hid (R.MkJ w3.heap.size w4.heap.size w15 (.slice ga M gc) M r) := O_g.out.keep (keep_below hbb (by omega))
  replace O_h0 : Hid (R.OwS w11.heap.size w12.heap.size w15 w11.heap.size n0 F0) := O_h0.out.keep (keep_below hbb (by omega))
  replace O_h : Hid (R.OwJ w12.heap.size w13.heap.size w15 (.slice ha M hc) M T) := O_h.out.keep (keep_below hbb (by omega))
  replace D_w : Hid (Below w.heap.size w w15) := D_w.out.trans (hbb.mono (by omega))
  replace D_w2 : Hid (Below w2.heap.size w2 w15) := D_w2.out.trans (hbb.mono (by omega))
  clear hbb
  go_wp2
  go_ret
  exact ⟨rfl, D_w.out⟩

set_option maxRecDepth 100000 in
theorem lifted (os : Os) (started : os.Started) (H : Type) (enc : TypeId × Value → H) :
    ReturnsInHanded {} Try.checked os 9 .any (Rows.fnExactCutRectSpec.pre6 enc Try.prog Try.f9 Rows.fnExactCutRectRow.domain false) (Rows.fnExactCutRectSpec.post enc Try.prog Try.f9 false true false false) := by
  refine returnsInHanded_of_change (C := Try.checked) own started (by kernel_rfl) Try.func9
    (ChangeSpec.witness6 (enc := enc) (C := Try.checked) false ⟨#[], #[.slice none 0 0, .int .i64 0, .int .i64 0], []⟩ 8 (by kernel_rfl) (by kernel_rfl) (by kernel_rfl) (by kernel_rfl)) ?_
  intro W base args ds gs before hval0 hW hcnd _
  have hval : ∀ (j : Nat) t v, Try.f9.params[j]? = some t → args[j]? = some v → Value.okWide Try.prog W .any base t v := hval0
  have hW' := hW
  obtain ⟨p, q, hA0, hV, rfl, hfz, hnd⟩ := hW
  have hA : DataW.TrodAll enc Try.prog W 0 (fun _ => true) true Try.f9.params.toList args.toList ds p := hA0
  rw [Try.params9] at hA hval
  obtain ⟨v0, vs0, d0, ds0, p0, q0, hargs, rfl, rfl, h0, r0⟩ := trodAll_cons hA
  obtain ⟨v1, vs1, d1, ds1, p1, q1, rfl, rfl, rfl, h1, r1⟩ := trodAll_cons r0
  obtain ⟨v2, vs2, d2, ds2, p2, q2, rfl, rfl, rfl, h2, r2⟩ := trodAll_cons r1
  obtain ⟨rfl, rfl, rfl⟩ := trodAll_nil r2
  obtain rfl : args = #[v0, v1, v2] := by cases args; simp_all
  obtain ⟨rfl, rfl⟩ := trodVars_none hV
  have k0 := h0
  have lt0 : ∀ x ∈ p0, x.block < W.heap.size := by obtain ⟨m, hm⟩ := k0; exact DataW.trod_lt m _ _ _ hm
  obtain ⟨n0, F0, R0, nb0, rb0⟩ := R.open_spans (hval 0 22 v0 rfl rfl) h0
  have k1 := h1
  have lt1 : ∀ x ∈ p1, x.block < W.heap.size := by obtain ⟨m, hm⟩ := k1; exact DataW.trod_lt m _ _ _ hm
  obtain ⟨n1, rfl, _, _, w1⟩ := open_int Try.underlying2 (hval 1 2 v1 rfl rfl) h1
  have k2 := h2
  have lt2 : ∀ x ∈ p2, x.block < W.heap.size := by obtain ⟨m, hm⟩ := k2; exact DataW.trod_lt m _ _ _ hm
  obtain ⟨n2, rfl, _, _, w2⟩ := open_int Try.underlying2 (hval 2 2 v2 rfl rfl) h2
  clear hA0 hval0
  refine (walk R0 nb0 rb0 n1 (i64_lo w1) (i64_hi w1) n2 (i64_lo w2) (i64_hi w2)).mono fun e W' ⟨he, bel⟩ => ?_
  subst he
  exact ⟨_, rfl, _, _, _, [], _, [], hW', trodAll_mk1 (shut_bool Try.underlying4 _), (trodAll_cons_mk (Below.trod laidOut (by kernel_rfl) (of_decide_eq_true (by kernel_rfl)) k0 bel lt0) (trodAll_cons_mk (Below.trod laidOut (by kernel_rfl) (of_decide_eq_true (by kernel_rfl)) k1 bel lt1) (trodAll_cons_mk (Below.trod laidOut (by kernel_rfl) (of_decide_eq_true (by kernel_rfl)) k2 bel lt2) trodAll_mk0))), rfl, bel.frame _, fun h => by cases h⟩

theorem over : Rows.fnExactCutRectRow.holds Try.pinned (OpenSpec.ofChange Rows.fnExactCutRectSpec) :=
  OpenClaim.holds_of_wide 9 Try.f9 rfl rfl rfl rfl rfl rfl rfl ⟨rfl, rfl, rfl, rfl, rfl⟩ rfl rfl rfl rfl rfl (by kernel_rfl) Try.func9 (by kernel_rfl)
    (of_decide_eq_true (by kernel_rfl)) (by unfold Func.isWrapper; first | (rw [if_pos (by decide +kernel)]; kernel_rfl) | (rw [if_neg (by decide +kernel)]; exact ⟨rfl, rfl⟩))
    (fun os started H enc _ => lifted os started H enc)
end Go.Proofs.Ytclnmikneomccaa.LawCutRect
namespace Go.Proofs.Ytclnmikneomccaa
theorem cutRect_holds : Rows.FnExactCutRectSaid := LawCutRect.over
#print axioms cutRect_holds
end Go.Proofs.Ytclnmikneomccaa
