/- At every argument the program's JoinChains answers as the specification, where the law's own bound on the sizes does not answer first; what it answers owns its memory; nothing that was there is changed. -/
import Derived.Test.YtelejihgechmgaaJc
import Derived.Test.YtelejihgechmgaaSo
import Derived.Test.YtelejihgechmgaaRw
import Derived.Handy
import Derived.Deep.RegionHeld3
import Derived.Deep.DeepCutAuto
namespace Go.Proofs.Ytelejihgechmgaa.LawJoinChains
open Go.ChangeShapes Go.WideShapes Go.ChangeAt Go.RowKit Go.Joins
set_option linter.unusedVariables false

set_option maxHeartbeats 4000000 in
set_option maxRecDepth 20000 in
theorem walk {w : World} {v0 : Value} {n0 : Nat} {F0 : Nat → Mt.Sp} (h0 : Rsp w v0 n0 F0) (nb0 : n0 ≤ 9223372036854775807) {v1 : Value} {n1 : Nat} {F1 : Nat → Mt.Sp} (h1 : Rsp w v1 n1 F1) (nb1 : n1 ≤ 9223372036854775807) :
    Calls Try.prog 5 #[v0, v1] w fun e w' => e = .returned (.bool true) ∧ Below w.heap.size w w' := by
  obtain ⟨va0, vc0, ev0⟩ : ∃ ao cap, v0 = .slice ao n0 cap := h0.form
  subst ev0
  have H0 : Hid (Rsp w (.slice va0 n0 vc0) n0 F0) := h0
  clear h0
  obtain ⟨va1, vc1, ev1⟩ : ∃ ao cap, v1 = .slice ao n1 cap := h1.form
  subst ev1
  have H1 : Hid (Rsp w (.slice va1 n1 vc1) n1 F1) := h1
  clear h1
  have D_w : Hid (Below w.heap.size w w) := Below.refl _ _
  have zw : w.heap.size ≤ w.heap.size := Nat.le_refl _
  go_enter Try.func5, Try.ntmps5
  go_wp2_with fail
  refine (szSp_any _ _ _ 1048576 _ (by omega) (by omega) nb0).mono ?_
  rintro e wq0 ⟨rfl, ewq⟩
  obtain rfl := ewq
  obtain ⟨left0, hleft0⟩ : ∃ l, l = (if 1048576 - (n0 : Int) < 0 then -1 else 1048576 - (n0 : Int)) := ⟨_, rfl⟩
  rw [← hleft0]
  by_cases hr0 : left0 < 0
  · clear hleft0
    go_wp2
    go_ret
    exact ⟨rfl, D_w.out⟩
  have hs0 : left0 ≤ 1048576 - (n0 : Int) ∧ 1048576 - (n0 : Int) ≤ left0 := by split at hleft0 <;> omega
  have hm0 : (n0 : Int) ≤ 1048576 := by omega
  clear hleft0
  go_wp2_with fail
  refine (szSp_any _ _ _ left0 _ (by omega) (by omega) nb1).mono ?_
  rintro e wq1 ⟨rfl, ewq⟩
  obtain rfl := ewq
  obtain ⟨left1, hleft1⟩ : ∃ l, l = (if left0 - (n1 : Int) < 0 then -1 else left0 - (n1 : Int)) := ⟨_, rfl⟩
  rw [← hleft1]
  by_cases hr1 : left1 < 0
  · clear hleft1
    go_wp2
    go_ret
    exact ⟨rfl, D_w.out⟩
  have hs1 : left1 ≤ left0 - (n1 : Int) ∧ left0 - (n1 : Int) ≤ left1 := by split at hleft1 <;> omega
  have hm1 : (n1 : Int) ≤ 1048576 := by omega
  clear hleft1
  go_wp2_with fail
  refine (toSpans_any (H0.out.later D_w.out) (by omega)).mono ?_
  rintro e w1 ⟨rfl, hmo, hbb⟩
  have zw1 : w.heap.size ≤ w1.heap.size := hbb.size
  replace D_w : Hid (Below w.heap.size w w1) := D_w.out.trans (hbb.mono (by omega))
  clear hbb
  have O_c0 : Hid (OwS w.heap.size w1.heap.size w1 w.heap.size n0 F0) := hmo
  clear hmo
  go_wp2_with fail
  refine (toSpans_any (H1.out.later D_w.out) (by omega)).mono ?_
  rintro e w2 ⟨rfl, hmo, hbb⟩
  have zw2 : w1.heap.size ≤ w2.heap.size := hbb.size
  replace O_c0 : Hid (OwS w.heap.size w1.heap.size w2 w.heap.size n0 F0) := O_c0.out.keep (keep_below hbb (by omega))
  replace D_w : Hid (Below w.heap.size w w2) := D_w.out.trans (hbb.mono (by omega))
  clear hbb
  have O_c1 : Hid (OwS w1.heap.size w2.heap.size w2 w1.heap.size n1 F1) := hmo
  clear hmo
  go_wp2_with fail
  refine (sJoin_any O_c0.out.seg O_c1.out.seg (by omega) (by omega)).mono ?_
  rintro e w3 ⟨sv, rfl, hoo, hbb⟩
  obtain ⟨sa, sc, esv⟩ : ∃ ao cap, sv = .slice ao (n0 + n1) cap := hoo.shape
  subst esv
  have RS : Hid (OwJ w2.heap.size w3.heap.size w3 (.slice sa (n0 + n1) sc) (n0 + n1) (jn n0 F0 F1)) := hoo
  clear hoo
  have zw3 : w2.heap.size ≤ w3.heap.size := hbb.size
  replace O_c0 : Hid (OwS w.heap.size w1.heap.size w3 w.heap.size n0 F0) := O_c0.out.keep (keep_below hbb (by omega))
  replace O_c1 : Hid (OwS w1.heap.size w2.heap.size w3 w1.heap.size n1 F1) := O_c1.out.keep (keep_below hbb (by omega))
  replace D_w : Hid (Below w.heap.size w w3) := D_w.out.trans (hbb.mono (by omega))
  clear hbb
  clear O_c0
  clear O_c1
  go_wp2_with fail
  have D_w3 : Hid (Below w3.heap.size w3 w3) := Below.refl _ _
  refine (toSpans_any (H0.out.later D_w.out) (by omega)).mono ?_
  rintro e w4 ⟨rfl, hmo, hbb⟩
  have zw4 : w3.heap.size ≤ w4.heap.size := hbb.size
  replace D_w : Hid (Below w.heap.size w w4) := D_w.out.trans (hbb.mono (by omega))
  replace D_w3 : Hid (Below w3.heap.size w3 w4) := D_w3.out.trans (hbb.mono (by omega))
  clear hbb
  have O_x0 : Hid (OwS w3.heap.size w4.heap.size w4 w3.heap.size n0 F0) := hmo
  clear hmo
  go_wp2_with fail
  refine (toSpans_any (H1.out.later D_w.out) (by omega)).mono ?_
  rintro e w5 ⟨rfl, hmo, hbb⟩
  have zw5 : w4.heap.size ≤ w5.heap.size := hbb.size
  replace O_x0 : Hid (OwS w3.heap.size w4.heap.size w5 w3.heap.size n0 F0) := O_x0.out.keep (keep_below hbb (by omega))
  replace D_w : Hid (Below w.heap.size w w5) := D_w.out.trans (hbb.mono (by omega))
  replace D_w3 : Hid (Below w3.heap.size w3 w5) := D_w3.out.trans (hbb.mono (by omega))
  clear hbb
  have O_x1 : Hid (OwS w4.heap.size w5.heap.size w5 w4.heap.size n1 F1) := hmo
  clear hmo
  go_wp2_with fail
  refine (iJoin_any O_x0.out.seg O_x1.out.seg (by omega) (by omega)).mono ?_
  rintro e w6 ⟨gv, rfl, hoo, hbb⟩
  obtain ⟨ga, gc, egv⟩ : ∃ ao cap, gv = .slice ao (n0 + n1) cap := hoo.shape
  subst egv
  have zw6 : w5.heap.size ≤ w6.heap.size := hbb.size
  replace O_x0 : Hid (OwS w3.heap.size w4.heap.size w6 w3.heap.size n0 F0) := O_x0.out.keep (keep_below hbb (by omega))
  replace O_x1 : Hid (OwS w4.heap.size w5.heap.size w6 w4.heap.size n1 F1) := O_x1.out.keep (keep_below hbb (by omega))
  replace D_w : Hid (Below w.heap.size w w6) := D_w.out.trans (hbb.mono (by omega))
  replace D_w3 : Hid (Below w3.heap.size w3 w6) := D_w3.out.trans (hbb.mono (by omega))
  have O_g : Hid (OwJ w5.heap.size w6.heap.size w6 (.slice ga (n0 + n1) gc) (n0 + n1) (jn n0 F0 F1)) := hoo
  clear hoo hbb
  go_wp2_with fail
  refine (eqJ_any O_g.out (RS.out.later D_w3.out) (by omega)).mono ?_
  rintro e w7 ⟨rfl, hbb⟩
  have zw7 : w6.heap.size ≤ w7.heap.size := hbb.size
  replace O_x0 : Hid (OwS w3.heap.size w4.heap.size w7 w3.heap.size n0 F0) := O_x0.out.keep (keep_below hbb (by omega))
  replace O_x1 : Hid (OwS w4.heap.size w5.heap.size w7 w4.heap.size n1 F1) := O_x1.out.keep (keep_below hbb (by omega))
  replace O_g : Hid (OwJ w5.heap.size w6.heap.size w7 (.slice ga (n0 + n1) gc) (n0 + n1) (jn n0 F0 F1)) := O_g.out.keep (keep_below hbb (by omega))
  replace D_w : Hid (Below w.heap.size w w7) := D_w.out.trans (hbb.mono (by omega))
  replace D_w3 : Hid (Below w3.heap.size w3 w7) := D_w3.out.trans (hbb.mono (by omega))
  clear hbb
  go_wp2_with fail
  refine (toSpans_any (H0.out.later D_w.out) (by omega)).mono ?_
  rintro e w8 ⟨rfl, hmo, hbb⟩
  have zw8 : w7.heap.size ≤ w8.heap.size := hbb.size
  replace O_x0 : Hid (OwS w3.heap.size w4.heap.size w8 w3.heap.size n0 F0) := O_x0.out.keep (keep_below hbb (by omega))
  replace O_x1 : Hid (OwS w4.heap.size w5.heap.size w8 w4.heap.size n1 F1) := O_x1.out.keep (keep_below hbb (by omega))
  replace O_g : Hid (OwJ w5.heap.size w6.heap.size w8 (.slice ga (n0 + n1) gc) (n0 + n1) (jn n0 F0 F1)) := O_g.out.keep (keep_below hbb (by omega))
  replace D_w : Hid (Below w.heap.size w w8) := D_w.out.trans (hbb.mono (by omega))
  replace D_w3 : Hid (Below w3.heap.size w3 w8) := D_w3.out.trans (hbb.mono (by omega))
  clear hbb
  have O_q : Hid (OwS w7.heap.size w8.heap.size w8 w7.heap.size n0 F0) := hmo
  clear hmo
  go_wp2_with fail
  refine (eqSpans_any O_x0.out O_q.out (by omega)).mono ?_
  rintro e w9 ⟨rfl, hbb⟩
  clear O_q
  have zw9 : w8.heap.size ≤ w9.heap.size := hbb.size
  replace O_x0 : Hid (OwS w3.heap.size w4.heap.size w9 w3.heap.size n0 F0) := O_x0.out.keep (keep_below hbb (by omega))
  replace O_x1 : Hid (OwS w4.heap.size w5.heap.size w9 w4.heap.size n1 F1) := O_x1.out.keep (keep_below hbb (by omega))
  replace O_g : Hid (OwJ w5.heap.size w6.heap.size w9 (.slice ga (n0 + n1) gc) (n0 + n1) (jn n0 F0 F1)) := O_g.out.keep (keep_below hbb (by omega))
  replace D_w : Hid (Below w.heap.size w w9) := D_w.out.trans (hbb.mono (by omega))
  replace D_w3 : Hid (Below w3.heap.size w3 w9) := D_w3.out.trans (hbb.mono (by omega))
  clear hbb
  go_wp2_with fail
  refine (toSpans_any (H1.out.later D_w.out) (by omega)).mono ?_
  rintro e w10 ⟨rfl, hmo, hbb⟩
  have zw10 : w9.heap.size ≤ w10.heap.size := hbb.size
  replace O_x0 : Hid (OwS w3.heap.size w4.heap.size w10 w3.heap.size n0 F0) := O_x0.out.keep (keep_below hbb (by omega))
  replace O_x1 : Hid (OwS w4.heap.size w5.heap.size w10 w4.heap.size n1 F1) := O_x1.out.keep (keep_below hbb (by omega))
  replace O_g : Hid (OwJ w5.heap.size w6.heap.size w10 (.slice ga (n0 + n1) gc) (n0 + n1) (jn n0 F0 F1)) := O_g.out.keep (keep_below hbb (by omega))
  replace D_w : Hid (Below w.heap.size w w10) := D_w.out.trans (hbb.mono (by omega))
  replace D_w3 : Hid (Below w3.heap.size w3 w10) := D_w3.out.trans (hbb.mono (by omega))
  clear hbb
  have O_q : Hid (OwS w9.heap.size w10.heap.size w10 w9.heap.size n1 F1) := hmo
  clear hmo
  go_wp2_with fail
  refine (eqSpans_any O_x1.out O_q.out (by omega)).mono ?_
  rintro e w11 ⟨rfl, hbb⟩
  clear O_q
  have zw11 : w10.heap.size ≤ w11.heap.size := hbb.size
  replace O_x0 : Hid (OwS w3.heap.size w4.heap.size w11 w3.heap.size n0 F0) := O_x0.out.keep (keep_below hbb (by omega))
  replace O_x1 : Hid (OwS w4.heap.size w5.heap.size w11 w4.heap.size n1 F1) := O_x1.out.keep (keep_below hbb (by omega))
  replace O_g : Hid (OwJ w5.heap.size w6.heap.size w11 (.slice ga (n0 + n1) gc) (n0 + n1) (jn n0 F0 F1)) := O_g.out.keep (keep_below hbb (by omega))
  replace D_w : Hid (Below w.heap.size w w11) := D_w.out.trans (hbb.mono (by omega))
  replace D_w3 : Hid (Below w3.heap.size w3 w11) := D_w3.out.trans (hbb.mono (by omega))
  clear hbb
  go_wp2_with fail
  refine (markSpans_any 1 O_x0.out (by omega) (by omega) (by omega)).mono ?_
  rintro e w12 ⟨rfl, hww⟩
  have zw12 : w11.heap.size ≤ w12.heap.size := hww.below.size
  replace O_x1 : Hid (OwS w4.heap.size w5.heap.size w12 w4.heap.size n1 F1) := O_x1.out.keep (keep_apart hww (by omega) (by omega))
  replace O_g : Hid (OwJ w5.heap.size w6.heap.size w12 (.slice ga (n0 + n1) gc) (n0 + n1) (jn n0 F0 F1)) := O_g.out.keep (keep_apart hww (by omega) (by omega))
  replace D_w : Hid (Below w.heap.size w w12) := D_w.out.trans (hww.below.mono (by omega))
  replace D_w3 : Hid (Below w3.heap.size w3 w12) := D_w3.out.trans (hww.below.mono (by omega))
  clear hww O_x0
  obtain ⟨k1, hk⟩ : ∃ k : Int, k = mSp 1 n0 := ⟨_, rfl⟩
  have hk1a : 0 ≤ k1 := by rw [hk]; unfold mSp; omega
  have hk1b : k1 ≤ 1 + 8000000 := by rw [hk]; unfold mSp; omega
  rw [← hk]
  clear hk
  go_wp2_with fail
  refine (markSpans_any k1 O_x1.out (by omega) (by omega) (by omega)).mono ?_
  rintro e w13 ⟨rfl, hww⟩
  have zw13 : w12.heap.size ≤ w13.heap.size := hww.below.size
  replace O_g : Hid (OwJ w5.heap.size w6.heap.size w13 (.slice ga (n0 + n1) gc) (n0 + n1) (jn n0 F0 F1)) := O_g.out.keep (keep_apart hww (by omega) (by omega))
  replace D_w : Hid (Below w.heap.size w w13) := D_w.out.trans (hww.below.mono (by omega))
  replace D_w3 : Hid (Below w3.heap.size w3 w13) := D_w3.out.trans (hww.below.mono (by omega))
  clear hww O_x1
  obtain ⟨k2, hk⟩ : ∃ k : Int, k = mSp k1 n1 := ⟨_, rfl⟩
  have hk2a : 0 ≤ k2 := by rw [hk]; unfold mSp; omega
  have hk2b : k2 ≤ k1 + 8000000 := by rw [hk]; unfold mSp; omega
  rw [← hk]
  clear hk
  go_wp2_with fail
  refine (eqJ_any O_g.out (RS.out.later D_w3.out) (by omega)).mono ?_
  rintro e w14 ⟨rfl, hbb⟩
  have zw14 : w13.heap.size ≤ w14.heap.size := hbb.size
  replace O_g : Hid (OwJ w5.heap.size w6.heap.size w14 (.slice ga (n0 + n1) gc) (n0 + n1) (jn n0 F0 F1)) := O_g.out.keep (keep_below hbb (by omega))
  replace D_w : Hid (Below w.heap.size w w14) := D_w.out.trans (hbb.mono (by omega))
  replace D_w3 : Hid (Below w3.heap.size w3 w14) := D_w3.out.trans (hbb.mono (by omega))
  clear hbb
  go_wp2_with fail
  refine (markJ_any O_g.out (by omega) (by omega) (by omega)).mono ?_
  rintro e w15 ⟨r, rfl, hmk, hww⟩
  have hr0 : 0 ≤ r := hmk.pos
  have zw15 : w14.heap.size ≤ w15.heap.size := hww.below.size
  replace D_w : Hid (Below w.heap.size w w15) := D_w.out.trans (hww.below.mono (by omega))
  replace D_w3 : Hid (Below w3.heap.size w3 w15) := D_w3.out.trans (hww.below.mono (by omega))
  replace O_g : Hid (MkJ w5.heap.size w6.heap.size w15 (.slice ga (n0 + n1) gc) (n0 + n1) r) := hmk
  clear hmk hww
  go_wp2_with fail
  refine (heldJ_any O_g.out (by omega)).mono ?_
  rintro e w16 ⟨rfl, hbb⟩
  have zw16 : w15.heap.size ≤ w16.heap.size := hbb.size
  replace O_g : Hid (MkJ w5.heap.size w6.heap.size w16 (.slice ga (n0 + n1) gc) (n0 + n1) r) := O_g.out.keep (keep_below hbb (by omega))
  replace D_w : Hid (Below w.heap.size w w16) := D_w.out.trans (hbb.mono (by omega))
  replace D_w3 : Hid (Below w3.heap.size w3 w16) := D_w3.out.trans (hbb.mono (by omega))
  clear hbb
  go_wp2_with fail
  refine (toSpans_any (H0.out.later D_w.out) (by omega)).mono ?_
  rintro e w17 ⟨rfl, hmo, hbb⟩
  have zw17 : w16.heap.size ≤ w17.heap.size := hbb.size
  replace O_g : Hid (MkJ w5.heap.size w6.heap.size w17 (.slice ga (n0 + n1) gc) (n0 + n1) r) := O_g.out.keep (keep_below hbb (by omega))
  replace D_w : Hid (Below w.heap.size w w17) := D_w.out.trans (hbb.mono (by omega))
  replace D_w3 : Hid (Below w3.heap.size w3 w17) := D_w3.out.trans (hbb.mono (by omega))
  clear hbb
  have O_h0 : Hid (OwS w16.heap.size w17.heap.size w17 w16.heap.size n0 F0) := hmo
  clear hmo
  go_wp2_with fail
  refine (toSpans_any (H1.out.later D_w.out) (by omega)).mono ?_
  rintro e w18 ⟨rfl, hmo, hbb⟩
  have zw18 : w17.heap.size ≤ w18.heap.size := hbb.size
  replace O_g : Hid (MkJ w5.heap.size w6.heap.size w18 (.slice ga (n0 + n1) gc) (n0 + n1) r) := O_g.out.keep (keep_below hbb (by omega))
  replace O_h0 : Hid (OwS w16.heap.size w17.heap.size w18 w16.heap.size n0 F0) := O_h0.out.keep (keep_below hbb (by omega))
  replace D_w : Hid (Below w.heap.size w w18) := D_w.out.trans (hbb.mono (by omega))
  replace D_w3 : Hid (Below w3.heap.size w3 w18) := D_w3.out.trans (hbb.mono (by omega))
  clear hbb
  have O_h1 : Hid (OwS w17.heap.size w18.heap.size w18 w17.heap.size n1 F1) := hmo
  clear hmo
  go_wp2_with fail
  refine (iJoin_any O_h0.out.seg O_h1.out.seg (by omega) (by omega)).mono ?_
  rintro e w19 ⟨hv, rfl, hoo, hbb⟩
  obtain ⟨ha, hc, ehv⟩ : ∃ ao cap, hv = .slice ao (n0 + n1) cap := hoo.shape
  subst ehv
  have zw19 : w18.heap.size ≤ w19.heap.size := hbb.size
  replace O_g : Hid (MkJ w5.heap.size w6.heap.size w19 (.slice ga (n0 + n1) gc) (n0 + n1) r) := O_g.out.keep (keep_below hbb (by omega))
  replace O_h0 : Hid (OwS w16.heap.size w17.heap.size w19 w16.heap.size n0 F0) := O_h0.out.keep (keep_below hbb (by omega))
  replace O_h1 : Hid (OwS w17.heap.size w18.heap.size w19 w17.heap.size n1 F1) := O_h1.out.keep (keep_below hbb (by omega))
  replace D_w : Hid (Below w.heap.size w w19) := D_w.out.trans (hbb.mono (by omega))
  replace D_w3 : Hid (Below w3.heap.size w3 w19) := D_w3.out.trans (hbb.mono (by omega))
  have O_h : Hid (OwJ w18.heap.size w19.heap.size w19 (.slice ha (n0 + n1) hc) (n0 + n1) (jn n0 F0 F1)) := hoo
  clear hoo hbb
  go_wp2_with fail
  refine (eqJ_any O_h.out (RS.out.later D_w3.out) (by omega)).mono ?_
  rintro e w20 ⟨rfl, hbb⟩
  have zw20 : w19.heap.size ≤ w20.heap.size := hbb.size
  replace O_g : Hid (MkJ w5.heap.size w6.heap.size w20 (.slice ga (n0 + n1) gc) (n0 + n1) r) := O_g.out.keep (keep_below hbb (by omega))
  replace O_h0 : Hid (OwS w16.heap.size w17.heap.size w20 w16.heap.size n0 F0) := O_h0.out.keep (keep_below hbb (by omega))
  replace O_h1 : Hid (OwS w17.heap.size w18.heap.size w20 w17.heap.size n1 F1) := O_h1.out.keep (keep_below hbb (by omega))
  replace O_h : Hid (OwJ w18.heap.size w19.heap.size w20 (.slice ha (n0 + n1) hc) (n0 + n1) (jn n0 F0 F1)) := O_h.out.keep (keep_below hbb (by omega))
  replace D_w : Hid (Below w.heap.size w w20) := D_w.out.trans (hbb.mono (by omega))
  replace D_w3 : Hid (Below w3.heap.size w3 w20) := D_w3.out.trans (hbb.mono (by omega))
  clear hbb
  go_wp2_with fail
  refine (heldJ_any O_g.out (by omega)).mono ?_
  rintro e w21 ⟨rfl, hbb⟩
  have zw21 : w20.heap.size ≤ w21.heap.size := hbb.size
  replace O_g : Hid (MkJ w5.heap.size w6.heap.size w21 (.slice ga (n0 + n1) gc) (n0 + n1) r) := O_g.out.keep (keep_below hbb (by omega))
  replace O_h0 : Hid (OwS w16.heap.size w17.heap.size w21 w16.heap.size n0 F0) := O_h0.out.keep (keep_below hbb (by omega))
  replace O_h1 : Hid (OwS w17.heap.size w18.heap.size w21 w17.heap.size n1 F1) := O_h1.out.keep (keep_below hbb (by omega))
  replace O_h : Hid (OwJ w18.heap.size w19.heap.size w21 (.slice ha (n0 + n1) hc) (n0 + n1) (jn n0 F0 F1)) := O_h.out.keep (keep_below hbb (by omega))
  replace D_w : Hid (Below w.heap.size w w21) := D_w.out.trans (hbb.mono (by omega))
  replace D_w3 : Hid (Below w3.heap.size w3 w21) := D_w3.out.trans (hbb.mono (by omega))
  clear hbb
  go_wp2
  go_ret
  exact ⟨rfl, D_w.out⟩

set_option maxRecDepth 100000 in
theorem lifted (os : Os) (started : os.Started) (H : Type) (enc : TypeId × Value → H) :
    ReturnsInHanded {} Try.checked os 5 .any (Rows.fnExactJoinChainsSpec.pre6 enc Try.prog Try.f5 Rows.fnExactJoinChainsRow.domain false) (Rows.fnExactJoinChainsSpec.post enc Try.prog Try.f5 false true false false) := by
  refine returnsInHanded_of_change (C := Try.checked) own started (by kernel_rfl) Try.func5
    (ChangeSpec.witness6 (enc := enc) (C := Try.checked) false ⟨#[], #[.slice none 0 0, .slice none 0 0], []⟩ 8 (by kernel_rfl) (by kernel_rfl) (by kernel_rfl) (by kernel_rfl)) ?_
  intro W base args ds gs before hval0 hW hcnd _
  have hval : ∀ (j : Nat) t v, Try.f5.params[j]? = some t → args[j]? = some v → Value.okWide Try.prog W .any base t v := hval0
  have hW' := hW
  obtain ⟨p, q, hA0, hV, rfl, hfz, hnd⟩ := hW
  have hA : DataW.TrodAll enc Try.prog W 0 (fun _ => true) true Try.f5.params.toList args.toList ds p := hA0
  rw [Try.params5] at hA hval
  obtain ⟨v0, vs0, d0, ds0, p0, q0, hargs, rfl, rfl, h0, r0⟩ := trodAll_cons hA
  obtain ⟨v1, vs1, d1, ds1, p1, q1, rfl, rfl, rfl, h1, r1⟩ := trodAll_cons r0
  obtain ⟨rfl, rfl, rfl⟩ := trodAll_nil r1
  obtain rfl : args = #[v0, v1] := by cases args; simp_all
  obtain ⟨rfl, rfl⟩ := trodVars_none hV
  have k0 := h0
  have lt0 : ∀ x ∈ p0, x.block < W.heap.size := by obtain ⟨m, hm⟩ := k0; exact DataW.trod_lt m _ _ _ hm
  obtain ⟨n0, F0, R0, nb0⟩ := open_spans (hval 0 22 v0 rfl rfl) h0
  have k1 := h1
  have lt1 : ∀ x ∈ p1, x.block < W.heap.size := by obtain ⟨m, hm⟩ := k1; exact DataW.trod_lt m _ _ _ hm
  obtain ⟨n1, F1, R1, nb1⟩ := open_spans (hval 1 22 v1 rfl rfl) h1
  clear hA0 hval0
  refine (walk R0 nb0 R1 nb1).mono fun e W' ⟨he, bel⟩ => ?_
  subst he
  exact ⟨_, rfl, _, _, _, [], _, [], hW', trodAll_mk1 (shut_bool Try.underlying4 _), (trodAll_cons_mk (Below.trod laidOut (by kernel_rfl) (of_decide_eq_true (by kernel_rfl)) k0 bel lt0) (trodAll_cons_mk (Below.trod laidOut (by kernel_rfl) (of_decide_eq_true (by kernel_rfl)) k1 bel lt1) trodAll_mk0)), rfl, bel.frame _, fun h => by cases h⟩

theorem over : Rows.fnExactJoinChainsRow.holds Try.pinned (OpenSpec.ofChange Rows.fnExactJoinChainsSpec) :=
  OpenClaim.holds_of_wide 5 Try.f5 rfl rfl rfl rfl rfl rfl rfl ⟨rfl, rfl, rfl, rfl, rfl⟩ rfl rfl rfl rfl rfl (by kernel_rfl) Try.func5 (by kernel_rfl)
    (of_decide_eq_true (by kernel_rfl)) (by unfold Func.isWrapper; first | (rw [if_pos (by decide +kernel)]; kernel_rfl) | (rw [if_neg (by decide +kernel)]; exact ⟨rfl, rfl⟩))
    (fun os started H enc _ => lifted os started H enc)
end Go.Proofs.Ytelejihgechmgaa.LawJoinChains
namespace Go.Proofs.Ytelejihgechmgaa
theorem joinChains_holds : Rows.FnExactJoinChainsSaid := LawJoinChains.over
#print axioms joinChains_holds
end Go.Proofs.Ytelejihgechmgaa
