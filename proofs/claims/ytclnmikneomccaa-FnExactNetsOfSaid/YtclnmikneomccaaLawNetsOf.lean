/- At every argument the program's NetsOf answers as the specification, where the law's own bound on the sizes does not answer first; what it answers owns its memory; nothing that was there is changed. -/
import Derived.Test.YtclnmikneomccaaNo
import Derived.Test.YtclnmikneomccaaRw
import Derived.Handy
import Derived.Deep.RegionHeld3
import Derived.Deep.DeepCutAuto
namespace Go.Proofs.Ytclnmikneomccaa.LawNetsOf
open Go.ChangeShapes Go.WideShapes Go.ChangeAt Go.RowKit Go.Joins
set_option linter.unusedVariables false

set_option maxHeartbeats 4000000 in
set_option maxRecDepth 20000 in
theorem walk {w : World} {v0 : Value} {n0 : Nat} {F0 : Nat → R.G} (h0 : R.Rsp w v0 n0 F0) (nb0 : n0 ≤ 9223372036854775807) (rb0 : ∀ i, i < n0 → (F0 i).b64) :
    Calls Try.prog 4 #[v0] w fun e w' => e = .returned (.bool true) ∧ Below w.heap.size w w' := by
  obtain ⟨va0, vc0, ev0⟩ : ∃ ao cap, v0 = .slice ao n0 cap := h0.form
  subst ev0
  have H0 : Hid (R.Rsp w (.slice va0 n0 vc0) n0 F0) := h0
  have RB0 : Hid (∀ i, i < n0 → (F0 i).b64) := rb0
  clear h0 rb0
  have D_w : Hid (Below w.heap.size w w) := Below.refl _ _
  have zw : w.heap.size ≤ w.heap.size := Nat.le_refl _
  obtain ⟨X, hxx⟩ := isNets_some F0 n0
  obtain ⟨c, hcc⟩ : ∃ c, rcode F0 n0 = c := ⟨_, rfl⟩
  have HCC : Hid (rcode F0 n0 = c ∧ IsNets F0 n0 X) := ⟨hcc, hxx⟩
  clear hcc hxx
  go_enter Try.func4, Try.ntmps4
  go_wp2_with fail
  refine (R.szSp_any _ _ _ 1048576 _ (by omega) (by omega) nb0).mono ?_
  rintro e wq0 ⟨rfl, ewq⟩
  obtain rfl := ewq
  obtain ⟨left0, hleft0⟩ : ∃ l, l = (if 1048576 - (n0 : Int) < 0 then -1 else 1048576 - (n0 : Int)) := ⟨_, rfl⟩
  rw [← hleft0]
  by_cases hr0 : left0 < 0
  · clear hleft0
    go_wp2
    go_ret
    exact ⟨rfl, D_w.out⟩
  have hs0 : left0 ≤ 1048576 - (n0 : Int) ∧ 1048576 - (n0 : Int) ≤ left0 := by split at hleft0 <;> omega
  have hm0 : (n0 : Int) ≤ 1048576 := by omega
  clear hleft0
  have HNM : Hid (c = 0 → (fints X n0).length ≤ 1048576) := fun _ => by rw [fints_len]; omega
  go_wp2_with fail
  refine (R.toSpans_any (H0.out.later D_w.out) (by omega)).mono ?_
  rintro e w1 ⟨rfl, hmo, hbb⟩
  have zw1 : w.heap.size ≤ w1.heap.size := hbb.size
  replace D_w : Hid (Below w.heap.size w w1) := D_w.out.trans (hbb.mono (by omega))
  clear hbb
  have O_c0 : Hid (R.OwS w.heap.size w1.heap.size w1 w.heap.size n0 F0) := hmo
  clear hmo
  go_wp2_with fail
  refine ((HCC.out.1 ▸ sNets_any HCC.out.2 O_c0.out.rd (by omega) (Nat.le_refl _))).mono ?_
  rintro e w2 ⟨sv, rfl, hoo, hbb⟩
  obtain ⟨sa, sk, sc, esv⟩ : ∃ ao k cap, sv = .slice ao k cap := OutI.shape hoo.rd
  subst esv
  have RS0 : Hid (OutI w2 c (.slice sa sk sc) (fints X n0)) := hoo.rd
  clear hoo
  have zw2 : w1.heap.size ≤ w2.heap.size := hbb.size
  replace O_c0 : Hid (R.OwS w.heap.size w1.heap.size w2 w.heap.size n0 F0) := O_c0.out.keep (keep_below hbb (by omega))
  replace D_w : Hid (Below w.heap.size w w2) := D_w.out.trans (hbb.mono (by omega))
  clear hbb
  clear O_c0
  go_wp2_with fail
  obtain ⟨w3, hwd⟩ : ∃ W, W = w2.alloc (.cells #[.int .i64 c, .slice sa sk sc] 31) := ⟨_, rfl⟩
  have NB : Hid (Blk w3 w2.heap.size #[.int .i64 c, .slice sa sk sc] 31) := by rw [hwd]; exact Blk.new rfl
  have hbb : Below w2.heap.size w2 w3 := by rw [hwd]; exact (Below.refl _ _).alloc (Nat.le_refl _) _
  have yw3 : w2.heap.size + 1 ≤ w3.heap.size := by rw [hwd]; simp
  have HWD : Hid (w3 = w2.alloc (.cells #[.int .i64 c, .slice sa sk sc] 31)) := hwd
  rw [← hwd]
  clear hwd
  have zw3 : w2.heap.size ≤ w3.heap.size := hbb.size
  replace D_w : Hid (Below w.heap.size w w3) := D_w.out.trans (hbb.mono (by omega))
  clear hbb
  have B_S := NB
  clear NB
  have RS : Hid (OutI w3 c (.slice sa sk sc) (fints X n0)) := RS0.out.later (show Below w2.heap.size w2 w3 from by rw [HWD.out]; exact (Below.refl _ _).alloc (Nat.le_refl _) _)
  clear RS0 HWD
  have D_w3 : Hid (Below w3.heap.size w3 w3) := Below.refl _ _
  refine (R.toSpans_any (H0.out.later D_w.out) (by omega)).mono ?_
  rintro e w4 ⟨rfl, hmo, hbb⟩
  have zw4 : w3.heap.size ≤ w4.heap.size := hbb.size
  replace B_S : Hid (Blk w4 w2.heap.size #[.int .i64 c, .slice sa sk sc] 31) := B_S.out.old hbb
  replace D_w : Hid (Below w.heap.size w w4) := D_w.out.trans (hbb.mono (by omega))
  replace D_w3 : Hid (Below w3.heap.size w3 w4) := D_w3.out.trans (hbb.mono (by omega))
  clear hbb
  have O_x0 : Hid (R.OwS w3.heap.size w4.heap.size w4 w3.heap.size n0 F0) := hmo
  clear hmo
  go_wp2_with fail
  refine ((HCC.out.1 ▸ iNets_any HCC.out.2 O_x0.out.rd (by omega) (Nat.le_refl _))).mono ?_
  rintro e w5 ⟨gv, rfl, hoo, hbb⟩
  obtain ⟨ga, gk, gc, egv⟩ : ∃ ao k cap, gv = .slice ao k cap := OutI.shape hoo.rd
  subst egv
  have zw5 : w4.heap.size ≤ w5.heap.size := hbb.size
  replace B_S : Hid (Blk w5 w2.heap.size #[.int .i64 c, .slice sa sk sc] 31) := B_S.out.old hbb
  replace O_x0 : Hid (R.OwS w3.heap.size w4.heap.size w5 w3.heap.size n0 F0) := O_x0.out.keep (keep_below hbb (by omega))
  replace D_w : Hid (Below w.heap.size w w5) := D_w.out.trans (hbb.mono (by omega))
  replace D_w3 : Hid (Below w3.heap.size w3 w5) := D_w3.out.trans (hbb.mono (by omega))
  have O_g : Hid (OwnI w4.heap.size w5.heap.size w5 c (.slice ga gk gc) (fints X n0)) := hoo
  clear hoo hbb
  have c_S_0 := B_S.out.cell (j := 0) rfl
  have c_S_1 := B_S.out.cell (j := 1) rfl
  have l_S := B_S.out.lt
  go_wp2_with fail
  obtain ⟨w6, hwd⟩ : ∃ W, W = w5.alloc (.cells #[.int .i64 c, .slice ga gk gc] 31) := ⟨_, rfl⟩
  have NB : Hid (Blk w6 w5.heap.size #[.int .i64 c, .slice ga gk gc] 31) := by rw [hwd]; exact Blk.new rfl
  have hbb : Below w5.heap.size w5 w6 := by rw [hwd]; exact (Below.refl _ _).alloc (Nat.le_refl _) _
  have yw6 : w5.heap.size + 1 ≤ w6.heap.size := by rw [hwd]; simp
  rw [← hwd]
  clear hwd
  clear c_S_0 c_S_1 l_S
  have zw6 : w5.heap.size ≤ w6.heap.size := hbb.size
  replace B_S : Hid (Blk w6 w2.heap.size #[.int .i64 c, .slice sa sk sc] 31) := B_S.out.old hbb
  replace O_x0 : Hid (R.OwS w3.heap.size w4.heap.size w6 w3.heap.size n0 F0) := O_x0.out.keep (keep_below hbb (by omega))
  replace O_g : Hid (OwnI w4.heap.size w5.heap.size w6 c (.slice ga gk gc) (fints X n0)) := O_g.out.keep (keep_below hbb (by omega))
  replace D_w : Hid (Below w.heap.size w w6) := D_w.out.trans (hbb.mono (by omega))
  replace D_w3 : Hid (Below w3.heap.size w3 w6) := D_w3.out.trans (hbb.mono (by omega))
  clear hbb
  have B_G := NB
  clear NB
  refine (eqI_any O_g.out.rd (RS.out.later D_w3.out) HNM.out).mono ?_
  rintro e w7 ⟨rfl, hbb⟩
  have zw7 : w6.heap.size ≤ w7.heap.size := hbb.size
  replace B_S : Hid (Blk w7 w2.heap.size #[.int .i64 c, .slice sa sk sc] 31) := B_S.out.old hbb
  replace B_G : Hid (Blk w7 w5.heap.size #[.int .i64 c, .slice ga gk gc] 31) := B_G.out.old hbb
  replace O_x0 : Hid (R.OwS w3.heap.size w4.heap.size w7 w3.heap.size n0 F0) := O_x0.out.keep (keep_below hbb (by omega))
  replace O_g : Hid (OwnI w4.heap.size w5.heap.size w7 c (.slice ga gk gc) (fints X n0)) := O_g.out.keep (keep_below hbb (by omega))
  replace D_w : Hid (Below w.heap.size w w7) := D_w.out.trans (hbb.mono (by omega))
  replace D_w3 : Hid (Below w3.heap.size w3 w7) := D_w3.out.trans (hbb.mono (by omega))
  clear hbb
  go_wp2_with fail
  refine (R.toSpans_any (H0.out.later D_w.out) (by omega)).mono ?_
  rintro e w8 ⟨rfl, hmo, hbb⟩
  have zw8 : w7.heap.size ≤ w8.heap.size := hbb.size
  replace B_S : Hid (Blk w8 w2.heap.size #[.int .i64 c, .slice sa sk sc] 31) := B_S.out.old hbb
  replace B_G : Hid (Blk w8 w5.heap.size #[.int .i64 c, .slice ga gk gc] 31) := B_G.out.old hbb
  replace O_x0 : Hid (R.OwS w3.heap.size w4.heap.size w8 w3.heap.size n0 F0) := O_x0.out.keep (keep_below hbb (by omega))
  replace O_g : Hid (OwnI w4.heap.size w5.heap.size w8 c (.slice ga gk gc) (fints X n0)) := O_g.out.keep (keep_below hbb (by omega))
  replace D_w : Hid (Below w.heap.size w w8) := D_w.out.trans (hbb.mono (by omega))
  replace D_w3 : Hid (Below w3.heap.size w3 w8) := D_w3.out.trans (hbb.mono (by omega))
  clear hbb
  have O_q : Hid (R.OwS w7.heap.size w8.heap.size w8 w7.heap.size n0 F0) := hmo
  clear hmo
  go_wp2_with fail
  refine (R.eqSpans_any O_x0.out O_q.out (by omega)).mono ?_
  rintro e w9 ⟨rfl, hbb⟩
  clear O_q
  have zw9 : w8.heap.size ≤ w9.heap.size := hbb.size
  replace B_S : Hid (Blk w9 w2.heap.size #[.int .i64 c, .slice sa sk sc] 31) := B_S.out.old hbb
  replace B_G : Hid (Blk w9 w5.heap.size #[.int .i64 c, .slice ga gk gc] 31) := B_G.out.old hbb
  replace O_x0 : Hid (R.OwS w3.heap.size w4.heap.size w9 w3.heap.size n0 F0) := O_x0.out.keep (keep_below hbb (by omega))
  replace O_g : Hid (OwnI w4.heap.size w5.heap.size w9 c (.slice ga gk gc) (fints X n0)) := O_g.out.keep (keep_below hbb (by omega))
  replace D_w : Hid (Below w.heap.size w w9) := D_w.out.trans (hbb.mono (by omega))
  replace D_w3 : Hid (Below w3.heap.size w3 w9) := D_w3.out.trans (hbb.mono (by omega))
  clear hbb
  go_wp2_with fail
  refine (R.markSpans_any 1 O_x0.out (by omega) (by omega) (by omega)).mono ?_
  rintro e w10 ⟨rfl, hww⟩
  have zw10 : w9.heap.size ≤ w10.heap.size := hww.below.size
  replace B_S : Hid (Blk w10 w2.heap.size #[.int .i64 c, .slice sa sk sc] 31) := B_S.out.within hww (by omega)
  replace B_G : Hid (Blk w10 w5.heap.size #[.int .i64 c, .slice ga gk gc] 31) := B_G.out.within hww (by omega)
  replace O_g : Hid (OwnI w4.heap.size w5.heap.size w10 c (.slice ga gk gc) (fints X n0)) := O_g.out.keep (keep_apart hww (by omega) (by omega))
  replace D_w : Hid (Below w.heap.size w w10) := D_w.out.trans (hww.below.mono (by omega))
  replace D_w3 : Hid (Below w3.heap.size w3 w10) := D_w3.out.trans (hww.below.mono (by omega))
  clear hww O_x0
  obtain ⟨k1, hk⟩ : ∃ k : Int, k = R.mSp 1 n0 := ⟨_, rfl⟩
  have hk1a : 0 ≤ k1 := by rw [hk]; unfold R.mSp; omega
  have hk1b : k1 ≤ 1 + 8000000 := by rw [hk]; unfold R.mSp; omega
  rw [← hk]
  clear hk
  have c_G_0 := B_G.out.cell (j := 0) rfl
  have c_G_1 := B_G.out.cell (j := 1) rfl
  have l_G := B_G.out.lt
  have c_S_0 := B_S.out.cell (j := 0) rfl
  have c_S_1 := B_S.out.cell (j := 1) rfl
  have l_S := B_S.out.lt
  go_wp2_with fail
  refine (eqI_any O_g.out.rd (RS.out.later D_w3.out) HNM.out).mono ?_
  rintro e w11 ⟨rfl, hbb⟩
  clear c_G_0 c_G_1 l_G c_S_0 c_S_1 l_S
  have zw11 : w10.heap.size ≤ w11.heap.size := hbb.size
  replace B_S : Hid (Blk w11 w2.heap.size #[.int .i64 c, .slice sa sk sc] 31) := B_S.out.old hbb
  replace B_G : Hid (Blk w11 w5.heap.size #[.int .i64 c, .slice ga gk gc] 31) := B_G.out.old hbb
  replace O_g : Hid (OwnI w4.heap.size w5.heap.size w11 c (.slice ga gk gc) (fints X n0)) := O_g.out.keep (keep_below hbb (by omega))
  replace D_w : Hid (Below w.heap.size w w11) := D_w.out.trans (hbb.mono (by omega))
  replace D_w3 : Hid (Below w3.heap.size w3 w11) := D_w3.out.trans (hbb.mono (by omega))
  clear hbb
  have c_G_0 := B_G.out.cell (j := 0) rfl
  have c_G_1 := B_G.out.cell (j := 1) rfl
  have l_G := B_G.out.lt
  go_wp2_with fail
  refine (markI_any O_g.out HNM.out (by omega) (by omega)).mono ?_
  rintro e w12 ⟨r, rfl, hmk, hww⟩
  clear c_G_0 c_G_1 l_G
  have hr0 : 0 ≤ r := hmk.pos
  have zw12 : w11.heap.size ≤ w12.heap.size := hww.below.size
  replace B_S : Hid (Blk w12 w2.heap.size #[.int .i64 c, .slice sa sk sc] 31) := B_S.out.within hww (by omega)
  replace B_G : Hid (Blk w12 w5.heap.size #[.int .i64 c, .slice ga gk gc] 31) := B_G.out.within hww (by omega)
  replace D_w : Hid (Below w.heap.size w w12) := D_w.out.trans (hww.below.mono (by omega))
  replace D_w3 : Hid (Below w3.heap.size w3 w12) := D_w3.out.trans (hww.below.mono (by omega))
  replace O_g : Hid (MkdI w4.heap.size w5.heap.size w12 c (.slice ga gk gc) (fints X n0) r) := hmk
  clear hmk hww
  have c_G_0 := B_G.out.cell (j := 0) rfl
  have c_G_1 := B_G.out.cell (j := 1) rfl
  have l_G := B_G.out.lt
  go_wp2_with fail
  refine (heldI_any O_g.out HNM.out (by omega)).mono ?_
  rintro e w13 ⟨rfl, hbb⟩
  clear c_G_0 c_G_1 l_G
  have zw13 : w12.heap.size ≤ w13.heap.size := hbb.size
  replace B_S : Hid (Blk w13 w2.heap.size #[.int .i64 c, .slice sa sk sc] 31) := B_S.out.old hbb
  replace B_G : Hid (Blk w13 w5.heap.size #[.int .i64 c, .slice ga gk gc] 31) := B_G.out.old hbb
  replace O_g : Hid (MkdI w4.heap.size w5.heap.size w13 c (.slice ga gk gc) (fints X n0) r) := O_g.out.keep (keep_below hbb (by omega))
  replace D_w : Hid (Below w.heap.size w w13) := D_w.out.trans (hbb.mono (by omega))
  replace D_w3 : Hid (Below w3.heap.size w3 w13) := D_w3.out.trans (hbb.mono (by omega))
  clear hbb
  go_wp2_with fail
  refine (R.toSpans_any (H0.out.later D_w.out) (by omega)).mono ?_
  rintro e w14 ⟨rfl, hmo, hbb⟩
  have zw14 : w13.heap.size ≤ w14.heap.size := hbb.size
  replace B_S : Hid (Blk w14 w2.heap.size #[.int .i64 c, .slice sa sk sc] 31) := B_S.out.old hbb
  replace B_G : Hid (Blk w14 w5.heap.size #[.int .i64 c, .slice ga gk gc] 31) := B_G.out.old hbb
  replace O_g : Hid (MkdI w4.heap.size w5.heap.size w14 c (.slice ga gk gc) (fints X n0) r) := O_g.out.keep (keep_below hbb (by omega))
  replace D_w : Hid (Below w.heap.size w w14) := D_w.out.trans (hbb.mono (by omega))
  replace D_w3 : Hid (Below w3.heap.size w3 w14) := D_w3.out.trans (hbb.mono (by omega))
  clear hbb
  have O_h0 : Hid (R.OwS w13.heap.size w14.heap.size w14 w13.heap.size n0 F0) := hmo
  clear hmo
  go_wp2_with fail
  refine ((HCC.out.1 ▸ iNets_any HCC.out.2 O_h0.out.rd (by omega) (Nat.le_refl _))).mono ?_
  rintro e w15 ⟨hv, rfl, hoo, hbb⟩
  obtain ⟨ha, hk, hc, ehv⟩ : ∃ ao k cap, hv = .slice ao k cap := OutI.shape hoo.rd
  subst ehv
  have zw15 : w14.heap.size ≤ w15.heap.size := hbb.size
  replace B_S : Hid (Blk w15 w2.heap.size #[.int .i64 c, .slice sa sk sc] 31) := B_S.out.old hbb
  replace B_G : Hid (Blk w15 w5.heap.size #[.int .i64 c, .slice ga gk gc] 31) := B_G.out.old hbb
  replace O_g : Hid (MkdI w4.heap.size w5.heap.size w15 c (.slice ga gk gc) (fints X n0) r) := O_g.out.keep (keep_below hbb (by omega))
  replace O_h0 : Hid (R.OwS w13.heap.size w14.heap.size w15 w13.heap.size n0 F0) := O_h0.out.keep (keep_below hbb (by omega))
  replace D_w : Hid (Below w.heap.size w w15) := D_w.out.trans (hbb.mono (by omega))
  replace D_w3 : Hid (Below w3.heap.size w3 w15) := D_w3.out.trans (hbb.mono (by omega))
  have O_h : Hid (OwnI w14.heap.size w15.heap.size w15 c (.slice ha hk hc) (fints X n0)) := hoo
  clear hoo hbb
  have c_S_0 := B_S.out.cell (j := 0) rfl
  have c_S_1 := B_S.out.cell (j := 1) rfl
  have l_S := B_S.out.lt
  go_wp2_with fail
  obtain ⟨w16, hwd⟩ : ∃ W, W = w15.alloc (.cells #[.int .i64 c, .slice ha hk hc] 31) := ⟨_, rfl⟩
  have NB : Hid (Blk w16 w15.heap.size #[.int .i64 c, .slice ha hk hc] 31) := by rw [hwd]; exact Blk.new rfl
  have hbb : Below w15.heap.size w15 w16 := by rw [hwd]; exact (Below.refl _ _).alloc (Nat.le_refl _) _
  have yw16 : w15.heap.size + 1 ≤ w16.heap.size := by rw [hwd]; simp
  rw [← hwd]
  clear hwd
  clear c_S_0 c_S_1 l_S
  have zw16 : w15.heap.size ≤ w16.heap.size := hbb.size
  replace B_S : Hid (Blk w16 w2.heap.size #[.int .i64 c, .slice sa sk sc] 31) := B_S.out.old hbb
  replace B_G : Hid (Blk w16 w5.heap.size #[.int .i64 c, .slice ga gk gc] 31) := B_G.out.old hbb
  replace O_g : Hid (MkdI w4.heap.size w5.heap.size w16 c (.slice ga gk gc) (fints X n0) r) := O_g.out.keep (keep_below hbb (by omega))
  replace O_h0 : Hid (R.OwS w13.heap.size w14.heap.size w16 w13.heap.size n0 F0) := O_h0.out.keep (keep_below hbb (by omega))
  replace O_h : Hid (OwnI w14.heap.size w15.heap.size w16 c (.slice ha hk hc) (fints X n0)) := O_h.out.keep (keep_below hbb (by omega))
  replace D_w : Hid (Below w.heap.size w w16) := D_w.out.trans (hbb.mono (by omega))
  replace D_w3 : Hid (Below w3.heap.size w3 w16) := D_w3.out.trans (hbb.mono (by omega))
  clear hbb
  have B_H := NB
  clear NB
  refine (eqI_any O_h.out.rd (RS.out.later D_w3.out) HNM.out).mono ?_
  rintro e w17 ⟨rfl, hbb⟩
  have zw17 : w16.heap.size ≤ w17.heap.size := hbb.size
  replace B_S : Hid (Blk w17 w2.heap.size #[.int .i64 c, .slice sa sk sc] 31) := B_S.out.old hbb
  replace B_G : Hid (Blk w17 w5.heap.size #[.int .i64 c, .slice ga gk gc] 31) := B_G.out.old hbb
  replace B_H : Hid (Blk w17 w15.heap.size #[.int .i64 c, .slice ha hk hc] 31) := B_H.out.old hbb
  replace O_g : Hid (MkdI w4.heap.size w5.heap.size w17 c (.slice ga gk gc) (fints X n0) r) := O_g.out.keep (keep_below hbb (by omega))
  replace O_h0 : Hid (R.OwS w13.heap.size w14.heap.size w17 w13.heap.size n0 F0) := O_h0.out.keep (keep_below hbb (by omega))
  replace O_h : Hid (OwnI w14.heap.size w15.heap.size w17 c (.slice ha hk hc) (fints X n0)) := O_h.out.keep (keep_below hbb (by omega))
  replace D_w : Hid (Below w.heap.size w w17) := D_w.out.trans (hbb.mono (by omega))
  replace D_w3 : Hid (Below w3.heap.size w3 w17) := D_w3.out.trans (hbb.mono (by omega))
  clear hbb
  have c_G_0 := B_G.out.cell (j := 0) rfl
  have c_G_1 := B_G.out.cell (j := 1) rfl
  have l_G := B_G.out.lt
  go_wp2_with fail
  refine (heldI_any O_g.out HNM.out (by omega)).mono ?_
  rintro e w18 ⟨rfl, hbb⟩
  clear c_G_0 c_G_1 l_G
  have zw18 : w17.heap.size ≤ w18.heap.size := hbb.size
  replace B_S : Hid (Blk w18 w2.heap.size #[.int .i64 c, .slice sa sk sc] 31) := B_S.out.old hbb
  replace B_G : Hid (Blk w18 w5.heap.size #[.int .i64 c, .slice ga gk gc] 31) := B_G.out.old hbb
  replace B_H : Hid (Blk w18 w15.heap.size #[.int .i64 c, .slice ha hk hc] 31) := B_H.out.old hbb
  replace O_g : Hid (MkdI w4.heap.size w5.heap.size w18 c (.slice ga gk gc) (fints X n0) r) := O_g.out.keep (keep_below hbb (by omega))
  replace O_h0 : Hid (R.OwS w13.heap.size w14.heap.size w18 w13.heap.size n0 F0) := O_h0.out.keep (keep_below hbb (by omega))
  replace O_h : Hid (OwnI w14.heap.size w15.heap.size w18 c (.slice ha hk hc) (fints X n0)) := O_h.out.keep (keep_below hbb (by omega))
  replace D_w : Hid (Below w.heap.size w w18) := D_w.out.trans (hbb.mono (by omega))
  replace D_w3 : Hid (Below w3.heap.size w3 w18) := D_w3.out.trans (hbb.mono (by omega))
  clear hbb
  go_wp2
  go_ret
  exact ⟨rfl, D_w.out⟩

set_option maxRecDepth 100000 in
theorem lifted (os : Os) (started : os.Started) (H : Type) (enc : TypeId × Value → H) :
    ReturnsInHanded {} Try.checked os 4 .any (Rows.fnExactNetsOfSpec.pre6 enc Try.prog Try.f4 Rows.fnExactNetsOfRow.domain false) (Rows.fnExactNetsOfSpec.post enc Try.prog Try.f4 false true false false) := by
  refine returnsInHanded_of_change (C := Try.checked) own started (by kernel_rfl) Try.func4
    (ChangeSpec.witness6 (enc := enc) (C := Try.checked) false ⟨#[], #[.slice none 0 0], []⟩ 8 (by kernel_rfl) (by kernel_rfl) (by kernel_rfl) (by kernel_rfl)) ?_
  intro W base args ds gs before hval0 hW hcnd _
  have hval : ∀ (j : Nat) t v, Try.f4.params[j]? = some t → args[j]? = some v → Value.okWide Try.prog W .any base t v := hval0
  have hW' := hW
  obtain ⟨p, q, hA0, hV, rfl, hfz, hnd⟩ := hW
  have hA : DataW.TrodAll enc Try.prog W 0 (fun _ => true) true Try.f4.params.toList args.toList ds p := hA0
  rw [Try.params4] at hA hval
  obtain ⟨v0, vs0, d0, ds0, p0, q0, hargs, rfl, rfl, h0, r0⟩ := trodAll_cons hA
  obtain ⟨rfl, rfl, rfl⟩ := trodAll_nil r0
  obtain rfl : args = #[v0] := by cases args; simp_all
  obtain ⟨rfl, rfl⟩ := trodVars_none hV
  have k0 := h0
  have lt0 : ∀ x ∈ p0, x.block < W.heap.size := by obtain ⟨m, hm⟩ := k0; exact DataW.trod_lt m _ _ _ hm
  obtain ⟨n0, F0, R0, nb0, rb0⟩ := R.open_spans (hval 0 22 v0 rfl rfl) h0
  clear hA0 hval0
  refine (walk R0 nb0 rb0).mono fun e W' ⟨he, bel⟩ => ?_
  subst he
  exact ⟨_, rfl, _, _, _, [], _, [], hW', trodAll_mk1 (shut_bool Try.underlying4 _), (trodAll_cons_mk (Below.trod laidOut (by kernel_rfl) (of_decide_eq_true (by kernel_rfl)) k0 bel lt0) trodAll_mk0), rfl, bel.frame _, fun h => by cases h⟩

theorem over : Rows.fnExactNetsOfRow.holds Try.pinned (OpenSpec.ofChange Rows.fnExactNetsOfSpec) :=
  OpenClaim.holds_of_wide 4 Try.f4 rfl rfl rfl rfl rfl rfl rfl ⟨rfl, rfl, rfl, rfl, rfl⟩ rfl rfl rfl rfl rfl (by kernel_rfl) Try.func4 (by kernel_rfl)
    (of_decide_eq_true (by kernel_rfl)) (by unfold Func.isWrapper; first | (rw [if_pos (by decide +kernel)]; kernel_rfl) | (rw [if_neg (by decide +kernel)]; exact ⟨rfl, rfl⟩))
    (fun os started H enc _ => lifted os started H enc)
end Go.Proofs.Ytclnmikneomccaa.LawNetsOf
namespace Go.Proofs.Ytclnmikneomccaa
theorem netsOf_holds : Rows.FnExactNetsOfSaid := LawNetsOf.over
#print axioms netsOf_holds
end Go.Proofs.Ytclnmikneomccaa
