/- At every argument the program's FlawsOf answers as the specification, where the law's own bound on the sizes does not answer first; what it answers owns its memory; nothing that was there is changed. -/
import Derived.Test.YtclnmikneomccaaSfw
import Derived.Test.YtclnmikneomccaaFo
import Derived.Test.YtclnmikneomccaaRw
import Derived.Handy
import Derived.Deep.RegionHeld3
import Derived.Deep.DeepCutAuto
namespace Go.Proofs.Ytclnmikneomccaa.LawFlawsOf
open Go.ChangeShapes Go.WideShapes Go.ChangeAt Go.RowKit Go.Joins
set_option linter.unusedVariables false

set_option maxHeartbeats 4000000 in
set_option maxRecDepth 20000 in
theorem walk {w : World} {v0 : Value} {n0 : Nat} {F0 : Nat → R.G} (h0 : R.Rsp w v0 n0 F0) (nb0 : n0 ≤ 9223372036854775807) (rb0 : ∀ i, i < n0 → (F0 i).b64) {v1 : Value} {n1 : Nat} {F1 : Nat → U.G} (h1 : U.Rsp w v1 n1 F1) (nb1 : n1 ≤ 9223372036854775807) (rb1 : ∀ i, i < n1 → (F1 i).b64) :
    Calls Try.prog 6 #[v0, v1] w fun e w' => e = .returned (.bool true) ∧ Below w.heap.size w w' := by
  obtain ⟨va0, vc0, ev0⟩ : ∃ ao cap, v0 = .slice ao n0 cap := h0.form
  subst ev0
  have H0 : Hid (R.Rsp w (.slice va0 n0 vc0) n0 F0) := h0
  have RB0 : Hid (∀ i, i < n0 → (F0 i).b64) := rb0
  clear h0 rb0
  obtain ⟨va1, vc1, ev1⟩ : ∃ ao cap, v1 = .slice ao n1 cap := h1.form
  subst ev1
  have H1 : Hid (U.Rsp w (.slice va1 n1 vc1) n1 F1) := h1
  have RB1 : Hid (∀ i, i < n1 → (F1 i).b64) := rb1
  clear h1 rb1
  have D_w : Hid (Below w.heap.size w w) := Below.refl _ _
  have zw : w.heap.size ≤ w.heap.size := Nat.le_refl _
  obtain ⟨X, hxx⟩ := isNets_some F0 n0
  obtain ⟨c, hcc⟩ : ∃ c, fcd F0 n0 F1 n1 = c := ⟨_, rfl⟩
  have HCC : Hid (fcd F0 n0 F1 n1 = c ∧ IsNets F0 n0 X) := ⟨hcc, hxx⟩
  clear hcc hxx
  go_enter Try.func6, Try.ntmps6
  go_wp2_with fail
  refine (R.szSp_any _ _ _ 1048576 _ (by omega) (by omega) nb0).mono ?_
  rintro e wq0 ⟨rfl, ewq⟩
  obtain rfl := ewq
  obtain ⟨left0, hleft0⟩ : ∃ l, l = (if 1048576 - (n0 : Int) < 0 then -1 else 1048576 - (n0 : Int)) := ⟨_, rfl⟩
  rw [← hleft0]
  by_cases hr0 : left0 < 0
  · clear hleft0
    go_wp2
    go_ret
    exact ⟨rfl, D_w.out⟩
  have hs0 : left0 ≤ 1048576 - (n0 : Int) ∧ 1048576 - (n0 : Int) ≤ left0 := by split at hleft0 <;> omega
  have hm0 : (n0 : Int) ≤ 1048576 := by omega
  clear hleft0
  go_wp2_with fail
  refine (U.szSp_any _ _ _ left0 _ (by omega) (by omega) nb1).mono ?_
  rintro e wq1 ⟨rfl, ewq⟩
  obtain rfl := ewq
  obtain ⟨left1, hleft1⟩ : ∃ l, l = (if left0 - (n1 : Int) < 0 then -1 else left0 - (n1 : Int)) := ⟨_, rfl⟩
  rw [← hleft1]
  by_cases hr1 : left1 < 0
  · clear hleft1
    go_wp2
    go_ret
    exact ⟨rfl, D_w.out⟩
  have hs1 : left1 ≤ left0 - (n1 : Int) ∧ left0 - (n1 : Int) ≤ left1 := by split at hleft1 <;> omega
  have hm1 : (n1 : Int) ≤ 1048576 := by omega
  clear hleft1
  have HNM : Hid (c = 0 → (fall F0 X F1 n1 n0 n0).length ≤ 1048576) := fun e => by have e1 := HCC.out.1; rw [e] at e1; unfold fcd at e1; have h0 : rcode F0 n0 = 0 := (Decidable.byContradiction fun q => by (rw [if_pos q] at e1; exact q e1)); have h1 := (rcode_ok h0).1; have h2 := fall_len (S := F0) (X := X) (Ru := F1) (m := n1) (n := n0) n0; have h3 := Nat.mul_le_mul h1 (show n0 + 1 ≤ 61 by omega); omega
  go_wp2_with fail
  refine (R.toSpans_any (H0.out.later D_w.out) (by omega)).mono ?_
  rintro e w1 ⟨rfl, hmo, hbb⟩
  have zw1 : w.heap.size ≤ w1.heap.size := hbb.size
  replace D_w : Hid (Below w.heap.size w w1) := D_w.out.trans (hbb.mono (by omega))
  clear hbb
  have O_c0 : Hid (R.OwS w.heap.size w1.heap.size w1 w.heap.size n0 F0) := hmo
  clear hmo
  go_wp2_with fail
  refine (U.toSpans_any (H1.out.later D_w.out) (by omega)).mono ?_
  rintro e w2 ⟨rfl, hmo, hbb⟩
  have zw2 : w1.heap.size ≤ w2.heap.size := hbb.size
  replace O_c0 : Hid (R.OwS w.heap.size w1.heap.size w2 w.heap.size n0 F0) := O_c0.out.keep (keep_below hbb (by omega))
  replace D_w : Hid (Below w.heap.size w w2) := D_w.out.trans (hbb.mono (by omega))
  clear hbb
  have O_c1 : Hid (U.OwS w1.heap.size w2.heap.size w2 w1.heap.size n1 F1) := hmo
  clear hmo
  go_wp2_with fail
  refine ((HCC.out.1 ▸ sFlaws_any HCC.out.2 O_c0.out.rd O_c1.out.rd (by omega) (by omega))).mono ?_
  rintro e w3 ⟨sv, rfl, hoo, hbb⟩
  obtain ⟨sa, sk, sc, esv⟩ : ∃ ao k cap, sv = .slice ao k cap := OutW.shape hoo.rd
  subst esv
  have RS0 : Hid (OutW w3 c (.slice sa sk sc) (fall F0 X F1 n1 n0 n0)) := hoo.rd
  clear hoo
  have zw3 : w2.heap.size ≤ w3.heap.size := hbb.size
  replace O_c0 : Hid (R.OwS w.heap.size w1.heap.size w3 w.heap.size n0 F0) := O_c0.out.keep (keep_below hbb (by omega))
  replace O_c1 : Hid (U.OwS w1.heap.size w2.heap.size w3 w1.heap.size n1 F1) := O_c1.out.keep (keep_below hbb (by omega))
  replace D_w : Hid (Below w.heap.size w w3) := D_w.out.trans (hbb.mono (by omega))
  clear hbb
  clear O_c0
  clear O_c1
  go_wp2_with fail
  obtain ⟨w4, hwd⟩ : ∃ W, W = w3.alloc (.cells #[.int .i64 c, .slice sa sk sc] 45) := ⟨_, rfl⟩
  have NB : Hid (Blk w4 w3.heap.size #[.int .i64 c, .slice sa sk sc] 45) := by rw [hwd]; exact Blk.new rfl
  have hbb : Below w3.heap.size w3 w4 := by rw [hwd]; exact (Below.refl _ _).alloc (Nat.le_refl _) _
  have yw4 : w3.heap.size + 1 ≤ w4.heap.size := by rw [hwd]; simp
  have HWD : Hid (w4 = w3.alloc (.cells #[.int .i64 c, .slice sa sk sc] 45)) := hwd
  rw [← hwd]
  clear hwd
  have zw4 : w3.heap.size ≤ w4.heap.size := hbb.size
  replace D_w : Hid (Below w.heap.size w w4) := D_w.out.trans (hbb.mono (by omega))
  clear hbb
  have B_S := NB
  clear NB
  have RS : Hid (OutW w4 c (.slice sa sk sc) (fall F0 X F1 n1 n0 n0)) := RS0.out.later (show Below w3.heap.size w3 w4 from by rw [HWD.out]; exact (Below.refl _ _).alloc (Nat.le_refl _) _)
  clear RS0 HWD
  have D_w4 : Hid (Below w4.heap.size w4 w4) := Below.refl _ _
  refine (R.toSpans_any (H0.out.later D_w.out) (by omega)).mono ?_
  rintro e w5 ⟨rfl, hmo, hbb⟩
  have zw5 : w4.heap.size ≤ w5.heap.size := hbb.size
  replace B_S : Hid (Blk w5 w3.heap.size #[.int .i64 c, .slice sa sk sc] 45) := B_S.out.old hbb
  replace D_w : Hid (Below w.heap.size w w5) := D_w.out.trans (hbb.mono (by omega))
  replace D_w4 : Hid (Below w4.heap.size w4 w5) := D_w4.out.trans (hbb.mono (by omega))
  clear hbb
  have O_x0 : Hid (R.OwS w4.heap.size w5.heap.size w5 w4.heap.size n0 F0) := hmo
  clear hmo
  go_wp2_with fail
  refine (U.toSpans_any (H1.out.later D_w.out) (by omega)).mono ?_
  rintro e w6 ⟨rfl, hmo, hbb⟩
  have zw6 : w5.heap.size ≤ w6.heap.size := hbb.size
  replace B_S : Hid (Blk w6 w3.heap.size #[.int .i64 c, .slice sa sk sc] 45) := B_S.out.old hbb
  replace O_x0 : Hid (R.OwS w4.heap.size w5.heap.size w6 w4.heap.size n0 F0) := O_x0.out.keep (keep_below hbb (by omega))
  replace D_w : Hid (Below w.heap.size w w6) := D_w.out.trans (hbb.mono (by omega))
  replace D_w4 : Hid (Below w4.heap.size w4 w6) := D_w4.out.trans (hbb.mono (by omega))
  clear hbb
  have O_x1 : Hid (U.OwS w5.heap.size w6.heap.size w6 w5.heap.size n1 F1) := hmo
  clear hmo
  go_wp2_with fail
  refine ((HCC.out.1 ▸ iFlaws_any HCC.out.2 O_x0.out.rd O_x1.out.rd (by omega) (by omega) (Nat.le_refl _))).mono ?_
  rintro e w7 ⟨gv, rfl, hoo, hbb⟩
  obtain ⟨ga, gk, gc, egv⟩ : ∃ ao k cap, gv = .slice ao k cap := OutW.shape hoo.rd
  subst egv
  have zw7 : w6.heap.size ≤ w7.heap.size := hbb.size
  replace B_S : Hid (Blk w7 w3.heap.size #[.int .i64 c, .slice sa sk sc] 45) := B_S.out.old hbb
  replace O_x0 : Hid (R.OwS w4.heap.size w5.heap.size w7 w4.heap.size n0 F0) := O_x0.out.keep (keep_below hbb (by omega))
  replace O_x1 : Hid (U.OwS w5.heap.size w6.heap.size w7 w5.heap.size n1 F1) := O_x1.out.keep (keep_below hbb (by omega))
  replace D_w : Hid (Below w.heap.size w w7) := D_w.out.trans (hbb.mono (by omega))
  replace D_w4 : Hid (Below w4.heap.size w4 w7) := D_w4.out.trans (hbb.mono (by omega))
  have O_g : Hid (OwnW w6.heap.size w7.heap.size w7 c (.slice ga gk gc) (fall F0 X F1 n1 n0 n0)) := hoo
  clear hoo hbb
  have c_S_0 := B_S.out.cell (j := 0) rfl
  have c_S_1 := B_S.out.cell (j := 1) rfl
  have l_S := B_S.out.lt
  go_wp2_with fail
  obtain ⟨w8, hwd⟩ : ∃ W, W = w7.alloc (.cells #[.int .i64 c, .slice ga gk gc] 45) := ⟨_, rfl⟩
  have NB : Hid (Blk w8 w7.heap.size #[.int .i64 c, .slice ga gk gc] 45) := by rw [hwd]; exact Blk.new rfl
  have hbb : Below w7.heap.size w7 w8 := by rw [hwd]; exact (Below.refl _ _).alloc (Nat.le_refl _) _
  have yw8 : w7.heap.size + 1 ≤ w8.heap.size := by rw [hwd]; simp
  rw [← hwd]
  clear hwd
  clear c_S_0 c_S_1 l_S
  have zw8 : w7.heap.size ≤ w8.heap.size := hbb.size
  replace B_S : Hid (Blk w8 w3.heap.size #[.int .i64 c, .slice sa sk sc] 45) := B_S.out.old hbb
  replace O_x0 : Hid (R.OwS w4.heap.size w5.heap.size w8 w4.heap.size n0 F0) := O_x0.out.keep (keep_below hbb (by omega))
  replace O_x1 : Hid (U.OwS w5.heap.size w6.heap.size w8 w5.heap.size n1 F1) := O_x1.out.keep (keep_below hbb (by omega))
  replace O_g : Hid (OwnW w6.heap.size w7.heap.size w8 c (.slice ga gk gc) (fall F0 X F1 n1 n0 n0)) := O_g.out.keep (keep_below hbb (by omega))
  replace D_w : Hid (Below w.heap.size w w8) := D_w.out.trans (hbb.mono (by omega))
  replace D_w4 : Hid (Below w4.heap.size w4 w8) := D_w4.out.trans (hbb.mono (by omega))
  clear hbb
  have B_G := NB
  clear NB
  refine (eqW_any O_g.out.rd (RS.out.later D_w4.out) HNM.out).mono ?_
  rintro e w9 ⟨rfl, hbb⟩
  have zw9 : w8.heap.size ≤ w9.heap.size := hbb.size
  replace B_S : Hid (Blk w9 w3.heap.size #[.int .i64 c, .slice sa sk sc] 45) := B_S.out.old hbb
  replace B_G : Hid (Blk w9 w7.heap.size #[.int .i64 c, .slice ga gk gc] 45) := B_G.out.old hbb
  replace O_x0 : Hid (R.OwS w4.heap.size w5.heap.size w9 w4.heap.size n0 F0) := O_x0.out.keep (keep_below hbb (by omega))
  replace O_x1 : Hid (U.OwS w5.heap.size w6.heap.size w9 w5.heap.size n1 F1) := O_x1.out.keep (keep_below hbb (by omega))
  replace O_g : Hid (OwnW w6.heap.size w7.heap.size w9 c (.slice ga gk gc) (fall F0 X F1 n1 n0 n0)) := O_g.out.keep (keep_below hbb (by omega))
  replace D_w : Hid (Below w.heap.size w w9) := D_w.out.trans (hbb.mono (by omega))
  replace D_w4 : Hid (Below w4.heap.size w4 w9) := D_w4.out.trans (hbb.mono (by omega))
  clear hbb
  go_wp2_with fail
  refine (R.toSpans_any (H0.out.later D_w.out) (by omega)).mono ?_
  rintro e w10 ⟨rfl, hmo, hbb⟩
  have zw10 : w9.heap.size ≤ w10.heap.size := hbb.size
  replace B_S : Hid (Blk w10 w3.heap.size #[.int .i64 c, .slice sa sk sc] 45) := B_S.out.old hbb
  replace B_G : Hid (Blk w10 w7.heap.size #[.int .i64 c, .slice ga gk gc] 45) := B_G.out.old hbb
  replace O_x0 : Hid (R.OwS w4.heap.size w5.heap.size w10 w4.heap.size n0 F0) := O_x0.out.keep (keep_below hbb (by omega))
  replace O_x1 : Hid (U.OwS w5.heap.size w6.heap.size w10 w5.heap.size n1 F1) := O_x1.out.keep (keep_below hbb (by omega))
  replace O_g : Hid (OwnW w6.heap.size w7.heap.size w10 c (.slice ga gk gc) (fall F0 X F1 n1 n0 n0)) := O_g.out.keep (keep_below hbb (by omega))
  replace D_w : Hid (Below w.heap.size w w10) := D_w.out.trans (hbb.mono (by omega))
  replace D_w4 : Hid (Below w4.heap.size w4 w10) := D_w4.out.trans (hbb.mono (by omega))
  clear hbb
  have O_q : Hid (R.OwS w9.heap.size w10.heap.size w10 w9.heap.size n0 F0) := hmo
  clear hmo
  go_wp2_with fail
  refine (R.eqSpans_any O_x0.out O_q.out (by omega)).mono ?_
  rintro e w11 ⟨rfl, hbb⟩
  clear O_q
  have zw11 : w10.heap.size ≤ w11.heap.size := hbb.size
  replace B_S : Hid (Blk w11 w3.heap.size #[.int .i64 c, .slice sa sk sc] 45) := B_S.out.old hbb
  replace B_G : Hid (Blk w11 w7.heap.size #[.int .i64 c, .slice ga gk gc] 45) := B_G.out.old hbb
  replace O_x0 : Hid (R.OwS w4.heap.size w5.heap.size w11 w4.heap.size n0 F0) := O_x0.out.keep (keep_below hbb (by omega))
  replace O_x1 : Hid (U.OwS w5.heap.size w6.heap.size w11 w5.heap.size n1 F1) := O_x1.out.keep (keep_below hbb (by omega))
  replace O_g : Hid (OwnW w6.heap.size w7.heap.size w11 c (.slice ga gk gc) (fall F0 X F1 n1 n0 n0)) := O_g.out.keep (keep_below hbb (by omega))
  replace D_w : Hid (Below w.heap.size w w11) := D_w.out.trans (hbb.mono (by omega))
  replace D_w4 : Hid (Below w4.heap.size w4 w11) := D_w4.out.trans (hbb.mono (by omega))
  clear hbb
  go_wp2_with fail
  refine (U.toSpans_any (H1.out.later D_w.out) (by omega)).mono ?_
  rintro e w12 ⟨rfl, hmo, hbb⟩
  have zw12 : w11.heap.size ≤ w12.heap.size := hbb.size
  replace B_S : Hid (Blk w12 w3.heap.size #[.int .i64 c, .slice sa sk sc] 45) := B_S.out.old hbb
  replace B_G : Hid (Blk w12 w7.heap.size #[.int .i64 c, .slice ga gk gc] 45) := B_G.out.old hbb
  replace O_x0 : Hid (R.OwS w4.heap.size w5.heap.size w12 w4.heap.size n0 F0) := O_x0.out.keep (keep_below hbb (by omega))
  replace O_x1 : Hid (U.OwS w5.heap.size w6.heap.size w12 w5.heap.size n1 F1) := O_x1.out.keep (keep_below hbb (by omega))
  replace O_g : Hid (OwnW w6.heap.size w7.heap.size w12 c (.slice ga gk gc) (fall F0 X F1 n1 n0 n0)) := O_g.out.keep (keep_below hbb (by omega))
  replace D_w : Hid (Below w.heap.size w w12) := D_w.out.trans (hbb.mono (by omega))
  replace D_w4 : Hid (Below w4.heap.size w4 w12) := D_w4.out.trans (hbb.mono (by omega))
  clear hbb
  have O_q : Hid (U.OwS w11.heap.size w12.heap.size w12 w11.heap.size n1 F1) := hmo
  clear hmo
  go_wp2_with fail
  refine (U.eqSpans_any O_x1.out O_q.out (by omega)).mono ?_
  rintro e w13 ⟨rfl, hbb⟩
  clear O_q
  have zw13 : w12.heap.size ≤ w13.heap.size := hbb.size
  replace B_S : Hid (Blk w13 w3.heap.size #[.int .i64 c, .slice sa sk sc] 45) := B_S.out.old hbb
  replace B_G : Hid (Blk w13 w7.heap.size #[.int .i64 c, .slice ga gk gc] 45) := B_G.out.old hbb
  replace O_x0 : Hid (R.OwS w4.heap.size w5.heap.size w13 w4.heap.size n0 F0) := O_x0.out.keep (keep_below hbb (by omega))
  replace O_x1 : Hid (U.OwS w5.heap.size w6.heap.size w13 w5.heap.size n1 F1) := O_x1.out.keep (keep_below hbb (by omega))
  replace O_g : Hid (OwnW w6.heap.size w7.heap.size w13 c (.slice ga gk gc) (fall F0 X F1 n1 n0 n0)) := O_g.out.keep (keep_below hbb (by omega))
  replace D_w : Hid (Below w.heap.size w w13) := D_w.out.trans (hbb.mono (by omega))
  replace D_w4 : Hid (Below w4.heap.size w4 w13) := D_w4.out.trans (hbb.mono (by omega))
  clear hbb
  go_wp2_with fail
  refine (R.markSpans_any 1 O_x0.out (by omega) (by omega) (by omega)).mono ?_
  rintro e w14 ⟨rfl, hww⟩
  have zw14 : w13.heap.size ≤ w14.heap.size := hww.below.size
  replace B_S : Hid (Blk w14 w3.heap.size #[.int .i64 c, .slice sa sk sc] 45) := B_S.out.within hww (by omega)
  replace B_G : Hid (Blk w14 w7.heap.size #[.int .i64 c, .slice ga gk gc] 45) := B_G.out.within hww (by omega)
  replace O_x1 : Hid (U.OwS w5.heap.size w6.heap.size w14 w5.heap.size n1 F1) := O_x1.out.keep (keep_apart hww (by omega) (by omega))
  replace O_g : Hid (OwnW w6.heap.size w7.heap.size w14 c (.slice ga gk gc) (fall F0 X F1 n1 n0 n0)) := O_g.out.keep (keep_apart hww (by omega) (by omega))
  replace D_w : Hid (Below w.heap.size w w14) := D_w.out.trans (hww.below.mono (by omega))
  replace D_w4 : Hid (Below w4.heap.size w4 w14) := D_w4.out.trans (hww.below.mono (by omega))
  clear hww O_x0
  obtain ⟨k1, hk⟩ : ∃ k : Int, k = R.mSp 1 n0 := ⟨_, rfl⟩
  have hk1a : 0 ≤ k1 := by rw [hk]; unfold R.mSp; omega
  have hk1b : k1 ≤ 1 + 8000000 := by rw [hk]; unfold R.mSp; omega
  rw [← hk]
  clear hk
  go_wp2_with fail
  refine (U.markSpans_any k1 O_x1.out (by omega) (by omega) (by omega)).mono ?_
  rintro e w15 ⟨rfl, hww⟩
  have zw15 : w14.heap.size ≤ w15.heap.size := hww.below.size
  replace B_S : Hid (Blk w15 w3.heap.size #[.int .i64 c, .slice sa sk sc] 45) := B_S.out.within hww (by omega)
  replace B_G : Hid (Blk w15 w7.heap.size #[.int .i64 c, .slice ga gk gc] 45) := B_G.out.within hww (by omega)
  replace O_g : Hid (OwnW w6.heap.size w7.heap.size w15 c (.slice ga gk gc) (fall F0 X F1 n1 n0 n0)) := O_g.out.keep (keep_apart hww (by omega) (by omega))
  replace D_w : Hid (Below w.heap.size w w15) := D_w.out.trans (hww.below.mono (by omega))
  replace D_w4 : Hid (Below w4.heap.size w4 w15) := D_w4.out.trans (hww.below.mono (by omega))
  clear hww O_x1
  obtain ⟨k2, hk⟩ : ∃ k : Int, k = U.mSp k1 n1 := ⟨_, rfl⟩
  have hk2a : 0 ≤ k2 := by rw [hk]; unfold U.mSp; omega
  have hk2b : k2 ≤ k1 + 8000000 := by rw [hk]; unfold U.mSp; omega
  rw [← hk]
  clear hk
  have c_G_0 := B_G.out.cell (j := 0) rfl
  have c_G_1 := B_G.out.cell (j := 1) rfl
  have l_G := B_G.out.lt
  have c_S_0 := B_S.out.cell (j := 0) rfl
  have c_S_1 := B_S.out.cell (j := 1) rfl
  have l_S := B_S.out.lt
  go_wp2_with fail
  refine (eqW_any O_g.out.rd (RS.out.later D_w4.out) HNM.out).mono ?_
  rintro e w16 ⟨rfl, hbb⟩
  clear c_G_0 c_G_1 l_G c_S_0 c_S_1 l_S
  have zw16 : w15.heap.size ≤ w16.heap.size := hbb.size
  replace B_S : Hid (Blk w16 w3.heap.size #[.int .i64 c, .slice sa sk sc] 45) := B_S.out.old hbb
  replace B_G : Hid (Blk w16 w7.heap.size #[.int .i64 c, .slice ga gk gc] 45) := B_G.out.old hbb
  replace O_g : Hid (OwnW w6.heap.size w7.heap.size w16 c (.slice ga gk gc) (fall F0 X F1 n1 n0 n0)) := O_g.out.keep (keep_below hbb (by omega))
  replace D_w : Hid (Below w.heap.size w w16) := D_w.out.trans (hbb.mono (by omega))
  replace D_w4 : Hid (Below w4.heap.size w4 w16) := D_w4.out.trans (hbb.mono (by omega))
  clear hbb
  have c_G_0 := B_G.out.cell (j := 0) rfl
  have c_G_1 := B_G.out.cell (j := 1) rfl
  have l_G := B_G.out.lt
  go_wp2_with fail
  refine (markW_any O_g.out HNM.out (by omega) (by omega)).mono ?_
  rintro e w17 ⟨r, rfl, hmk, hww⟩
  clear c_G_0 c_G_1 l_G
  have hr0 : 0 ≤ r := hmk.pos
  have zw17 : w16.heap.size ≤ w17.heap.size := hww.below.size
  replace B_S : Hid (Blk w17 w3.heap.size #[.int .i64 c, .slice sa sk sc] 45) := B_S.out.within hww (by omega)
  replace B_G : Hid (Blk w17 w7.heap.size #[.int .i64 c, .slice ga gk gc] 45) := B_G.out.within hww (by omega)
  replace D_w : Hid (Below w.heap.size w w17) := D_w.out.trans (hww.below.mono (by omega))
  replace D_w4 : Hid (Below w4.heap.size w4 w17) := D_w4.out.trans (hww.below.mono (by omega))
  replace O_g : Hid (MkdW w6.heap.size w7.heap.size w17 c (.slice ga gk gc) (fall F0 X F1 n1 n0 n0) r) := hmk
  clear hmk hww
  have c_G_0 := B_G.out.cell (j := 0) rfl
  have c_G_1 := B_G.out.cell (j := 1) rfl
  have l_G := B_G.out.lt
  go_wp2_with fail
  refine (heldW_any O_g.out HNM.out (by omega)).mono ?_
  rintro e w18 ⟨rfl, hbb⟩
  clear c_G_0 c_G_1 l_G
  have zw18 : w17.heap.size ≤ w18.heap.size := hbb.size
  replace B_S : Hid (Blk w18 w3.heap.size #[.int .i64 c, .slice sa sk sc] 45) := B_S.out.old hbb
  replace B_G : Hid (Blk w18 w7.heap.size #[.int .i64 c, .slice ga gk gc] 45) := B_G.out.old hbb
  replace O_g : Hid (MkdW w6.heap.size w7.heap.size w18 c (.slice ga gk gc) (fall F0 X F1 n1 n0 n0) r) := O_g.out.keep (keep_below hbb (by omega))
  replace D_w : Hid (Below w.heap.size w w18) := D_w.out.trans (hbb.mono (by omega))
  replace D_w4 : Hid (Below w4.heap.size w4 w18) := D_w4.out.trans (hbb.mono (by omega))
  clear hbb
  go_wp2_with fail
  refine (R.toSpans_any (H0.out.later D_w.out) (by omega)).mono ?_
  rintro e w19 ⟨rfl, hmo, hbb⟩
  have zw19 : w18.heap.size ≤ w19.heap.size := hbb.size
  replace B_S : Hid (Blk w19 w3.heap.size #[.int .i64 c, .slice sa sk sc] 45) := B_S.out.old hbb
  replace B_G : Hid (Blk w19 w7.heap.size #[.int .i64 c, .slice ga gk gc] 45) := B_G.out.old hbb
  replace O_g : Hid (MkdW w6.heap.size w7.heap.size w19 c (.slice ga gk gc) (fall F0 X F1 n1 n0 n0) r) := O_g.out.keep (keep_below hbb (by omega))
  replace D_w : Hid (Below w.heap.size w w19) := D_w.out.trans (hbb.mono (by omega))
  replace D_w4 : Hid (Below w4.heap.size w4 w19) := D_w4.out.trans (hbb.mono (by omega))
  clear hbb
  have O_h0 : Hid (R.OwS w18.heap.size w19.heap.size w19 w18.heap.size n0 F0) := hmo
  clear hmo
  go_wp2_with fail
  refine (U.toSpans_any (H1.out.later D_w.out) (by omega)).mono ?_
  rintro e w20 ⟨rfl, hmo, hbb⟩
  have zw20 : w19.heap.size ≤ w20.heap.size := hbb.size
  replace B_S : Hid (Blk w20 w3.heap.size #[.int .i64 c, .slice sa sk sc] 45) := B_S.out.old hbb
  replace B_G : Hid (Blk w20 w7.heap.size #[.int .i64 c, .slice ga gk gc] 45) := B_G.out.old hbb
  replace O_g : Hid (MkdW w6.heap.size w7.heap.size w20 c (.slice ga gk gc) (fall F0 X F1 n1 n0 n0) r) := O_g.out.keep (keep_below hbb (by omega))
  replace O_h0 : Hid (R.OwS w18.heap.size w19.heap.size w20 w18.heap.size n0 F0) := O_h0.out.keep (keep_below hbb (by omega))
  replace D_w : Hid (Below w.heap.size w w20) := D_w.out.trans (hbb.mono (by omega))
  replace D_w4 : Hid (Below w4.heap.size w4 w20) := D_w4.out.trans (hbb.mono (by omega))
  clear hbb
  have O_h1 : Hid (U.OwS w19.heap.size w20.heap.size w20 w19.heap.size n1 F1) := hmo
  clear hmo
  go_wp2_with fail
  refine ((HCC.out.1 ▸ iFlaws_any HCC.out.2 O_h0.out.rd O_h1.out.rd (by omega) (by omega) (Nat.le_refl _))).mono ?_
  rintro e w21 ⟨hv, rfl, hoo, hbb⟩
  obtain ⟨ha, hk, hc, ehv⟩ : ∃ ao k cap, hv = .slice ao k cap := OutW.shape hoo.rd
  subst ehv
  have zw21 : w20.heap.size ≤ w21.heap.size := hbb.size
  replace B_S : Hid (Blk w21 w3.heap.size #[.int .i64 c, .slice sa sk sc] 45) := B_S.out.old hbb
  replace B_G : Hid (Blk w21 w7.heap.size #[.int .i64 c, .slice ga gk gc] 45) := B_G.out.old hbb
  replace O_g : Hid (MkdW w6.heap.size w7.heap.size w21 c (.slice ga gk gc) (fall F0 X F1 n1 n0 n0) r) := O_g.out.keep (keep_below hbb (by omega))
  replace O_h0 : Hid (R.OwS w18.heap.size w19.heap.size w21 w18.heap.size n0 F0) := O_h0.out.keep (keep_below hbb (by omega))
  replace O_h1 : Hid (U.OwS w19.heap.size w20.heap.size w21 w19.heap.size n1 F1) := O_h1.out.keep (keep_below hbb (by omega))
  replace D_w : Hid (Below w.heap.size w w21) := D_w.out.trans (hbb.mono (by omega))
  replace D_w4 : Hid (Below w4.heap.size w4 w21) := D_w4.out.trans (hbb.mono (by omega))
  have O_h : Hid (OwnW w20.heap.size w21.heap.size w21 c (.slice ha hk hc) (fall F0 X F1 n1 n0 n0)) := hoo
  clear hoo hbb
  have c_S_0 := B_S.out.cell (j := 0) rfl
  have c_S_1 := B_S.out.cell (j := 1) rfl
  have l_S := B_S.out.lt
  go_wp2_with fail
  obtain ⟨w22, hwd⟩ : ∃ W, W = w21.alloc (.cells #[.int .i64 c, .slice ha hk hc] 45) := ⟨_, rfl⟩
  have NB : Hid (Blk w22 w21.heap.size #[.int .i64 c, .slice ha hk hc] 45) := by rw [hwd]; exact Blk.new rfl
  have hbb : Below w21.heap.size w21 w22 := by rw [hwd]; exact (Below.refl _ _).alloc (Nat.le_refl _) _
  have yw22 : w21.heap.size + 1 ≤ w22.heap.size := by rw [hwd]; simp
  rw [← hwd]
  clear hwd
  clear c_S_0 c_S_1 l_S
  have zw22 : w21.heap.size ≤ w22.heap.size := hbb.size
  replace B_S : Hid (Blk w22 w3.heap.size #[.int .i64 c, .slice sa sk sc] 45) := B_S.out.old hbb
  replace B_G : Hid (Blk w22 w7.heap.size #[.int .i64 c, .slice ga gk gc] 45) := B_G.out.old hbb
  replace O_g : Hid (MkdW w6.heap.size w7.heap.size w22 c (.slice ga gk gc) (fall F0 X F1 n1 n0 n0) r) := O_g.out.keep (keep_below hbb (by omega))
  replace O_h0 : Hid (R.OwS w18.heap.size w19.heap.size w22 w18.heap.size n0 F0) := O_h0.out.keep (keep_below hbb (by omega))
  replace O_h1 : Hid (U.OwS w19.heap.size w20.heap.size w22 w19.heap.size n1 F1) := O_h1.out.keep (keep_below hbb (by omega))
  replace O_h : Hid (OwnW w20.heap.size w21.heap.size w22 c (.slice ha hk hc) (fall F0 X F1 n1 n0 n0)) := O_h.out.keep (keep_below hbb (by omega))
  replace D_w : Hid (Below w.heap.size w w22) := D_w.out.trans (hbb.mono (by omega))
  replace D_w4 : Hid (Below w4.heap.size w4 w22) := D_w4.out.trans (hbb.mono (by omega))
  clear hbb
  have B_H := NB
  clear NB
  refine (eqW_any O_h.out.rd (RS.out.later D_w4.out) HNM.out).mono ?_
  rintro e w23 ⟨rfl, hbb⟩
  have zw23 : w22.heap.size ≤ w23.heap.size := hbb.size
  replace B_S : Hid (Blk w23 w3.heap.size #[.int .i64 c, .slice sa sk sc] 45) := B_S.out.old hbb
  replace B_G : Hid (Blk w23 w7.heap.size #[.int .i64 c, .slice ga gk gc] 45) := B_G.out.old hbb
  replace B_H : Hid (Blk w23 w21.heap.size #[.int .i64 c, .slice ha hk hc] 45) := B_H.out.old hbb
  replace O_g : Hid (MkdW w6.heap.size w7.heap.size w23 c (.slice ga gk gc) (fall F0 X F1 n1 n0 n0) r) := O_g.out.keep (keep_below hbb (by omega))
  replace O_h0 : Hid (R.OwS w18.heap.size w19.heap.size w23 w18.heap.size n0 F0) := O_h0.out.keep (keep_below hbb (by omega))
  replace O_h1 : Hid (U.OwS w19.heap.size w20.heap.size w23 w19.heap.size n1 F1) := O_h1.out.keep (keep_below hbb (by omega))
  replace O_h : Hid (OwnW w20.heap.size w21.heap.size w23 c (.slice ha hk hc) (fall F0 X F1 n1 n0 n0)) := O_h.out.keep (keep_below hbb (by omega))
  replace D_w : Hid (Below w.heap.size w w23) := D_w.out.trans (hbb.mono (by omega))
  replace D_w4 : Hid (Below w4.heap.size w4 w23) := D_w4.out.trans (hbb.mono (by omega))
  clear hbb
  have c_G_0 := B_G.out.cell (j := 0) rfl
  have c_G_1 := B_G.out.cell (j := 1) rfl
  have l_G := B_G.out.lt
  go_wp2_with fail
  refine (heldW_any O_g.out HNM.out (by omega)).mono ?_
  rintro e w24 ⟨rfl, hbb⟩
  clear c_G_0 c_G_1 l_G
  have zw24 : w23.heap.size ≤ w24.heap.size := hbb.size
  replace B_S : Hid (Blk w24 w3.heap.size #[.int .i64 c, .slice sa sk sc] 45) := B_S.out.old hbb
  replace B_G : Hid (Blk w24 w7.heap.size #[.int .i64 c, .slice ga gk gc] 45) := B_G.out.old hbb
  replace B_H : Hid (Blk w24 w21.heap.size #[.int .i64 c, .slice ha hk hc] 45) := B_H.out.old hbb
  replace O_g : Hid (MkdW w6.heap.size w7.heap.size w24 c (.slice ga gk gc) (fall F0 X F1 n1 n0 n0) r) := O_g.out.keep (keep_below hbb (by omega))
  replace O_h0 : Hid (R.OwS w18.heap.size w19.heap.size w24 w18.heap.size n0 F0) := O_h0.out.keep (keep_below hbb (by omega))
  replace O_h1 : Hid (U.OwS w19.heap.size w20.heap.size w24 w19.heap.size n1 F1) := O_h1.out.keep (keep_below hbb (by omega))
  replace O_h : Hid (OwnW w20.heap.size w21.heap.size w24 c (.slice ha hk hc) (fall F0 X F1 n1 n0 n0)) := O_h.out.keep (keep_below hbb (by omega))
  replace D_w : Hid (Below w.heap.size w w24) := D_w.out.trans (hbb.mono (by omega))
  replace D_w4 : Hid (Below w4.heap.size w4 w24) := D_w4.out.trans (hbb.mono (by omega))
  clear hbb
  go_wp2
  go_ret
  exact ⟨rfl, D_w.out⟩

set_option maxRecDepth 100000 in
theorem lifted (os : Os) (started : os.Started) (H : Type) (enc : TypeId × Value → H) :
    ReturnsInHanded {} Try.checked os 6 .any (Rows.fnExactFlawsOfSpec.pre6 enc Try.prog Try.f6 Rows.fnExactFlawsOfRow.domain false) (Rows.fnExactFlawsOfSpec.post enc Try.prog Try.f6 false true false false) := by
  refine returnsInHanded_of_change (C := Try.checked) own started (by kernel_rfl) Try.func6
    (ChangeSpec.witness6 (enc := enc) (C := Try.checked) false ⟨#[], #[.slice none 0 0, .slice none 0 0], []⟩ 8 (by kernel_rfl) (by kernel_rfl) (by kernel_rfl) (by kernel_rfl)) ?_
  intro W base args ds gs before hval0 hW hcnd _
  have hval : ∀ (j : Nat) t v, Try.f6.params[j]? = some t → args[j]? = some v → Value.okWide Try.prog W .any base t v := hval0
  have hW' := hW
  obtain ⟨p, q, hA0, hV, rfl, hfz, hnd⟩ := hW
  have hA : DataW.TrodAll enc Try.prog W 0 (fun _ => true) true Try.f6.params.toList args.toList ds p := hA0
  rw [Try.params6] at hA hval
  obtain ⟨v0, vs0, d0, ds0, p0, q0, hargs, rfl, rfl, h0, r0⟩ := trodAll_cons hA
  obtain ⟨v1, vs1, d1, ds1, p1, q1, rfl, rfl, rfl, h1, r1⟩ := trodAll_cons r0
  obtain ⟨rfl, rfl, rfl⟩ := trodAll_nil r1
  obtain rfl : args = #[v0, v1] := by cases args; simp_all
  obtain ⟨rfl, rfl⟩ := trodVars_none hV
  have k0 := h0
  have lt0 : ∀ x ∈ p0, x.block < W.heap.size := by obtain ⟨m, hm⟩ := k0; exact DataW.trod_lt m _ _ _ hm
  obtain ⟨n0, F0, R0, nb0, rb0⟩ := R.open_spans (hval 0 22 v0 rfl rfl) h0
  have k1 := h1
  have lt1 : ∀ x ∈ p1, x.block < W.heap.size := by obtain ⟨m, hm⟩ := k1; exact DataW.trod_lt m _ _ _ hm
  obtain ⟨n1, F1, R1, nb1, rb1⟩ := U.open_spans (hval 1 41 v1 rfl rfl) h1
  clear hA0 hval0
  refine (walk R0 nb0 rb0 R1 nb1 rb1).mono fun e W' ⟨he, bel⟩ => ?_
  subst he
  exact ⟨_, rfl, _, _, _, [], _, [], hW', trodAll_mk1 (shut_bool Try.underlying4 _), (trodAll_cons_mk (Below.trod laidOut (by kernel_rfl) (of_decide_eq_true (by kernel_rfl)) k0 bel lt0) (trodAll_cons_mk (Below.trod laidOut (by kernel_rfl) (of_decide_eq_true (by kernel_rfl)) k1 bel lt1) trodAll_mk0)), rfl, bel.frame _, fun h => by cases h⟩

theorem over : Rows.fnExactFlawsOfRow.holds Try.pinned (OpenSpec.ofChange Rows.fnExactFlawsOfSpec) :=
  OpenClaim.holds_of_wide 6 Try.f6 rfl rfl rfl rfl rfl rfl rfl ⟨rfl, rfl, rfl, rfl, rfl⟩ rfl rfl rfl rfl rfl (by kernel_rfl) Try.func6 (by kernel_rfl)
    (of_decide_eq_true (by kernel_rfl)) (by unfold Func.isWrapper; first | (rw [if_pos (by decide +kernel)]; kernel_rfl) | (rw [if_neg (by decide +kernel)]; exact ⟨rfl, rfl⟩))
    (fun os started H enc _ => lifted os started H enc)
end Go.Proofs.Ytclnmikneomccaa.LawFlawsOf
namespace Go.Proofs.Ytclnmikneomccaa
theorem flawsOf_holds : Rows.FnExactFlawsOfSaid := LawFlawsOf.over
#print axioms flawsOf_holds
end Go.Proofs.Ytclnmikneomccaa
