/- At every argument the program's NeighboursOf answers as the specification, where the law's own bound on the sizes does not answer first; what it answers owns its memory; nothing that was there is changed. -/
import Derived.Test.YtfpklfpcencimaaNt3
import Derived.Test.YtfpklfpcencimaaOn
import Derived.Test.YtfpklfpcencimaaRw
import Derived.Handy
import Derived.Deep.RegionHeld3
import Derived.Deep.DeepCutAuto
namespace Go.Proofs.Ytfpklfpcencimaa.LawNeighboursOf
open Go.ChangeShapes Go.WideShapes Go.ChangeAt Go.RowKit Go.Joins
set_option linter.unusedVariables false

set_option maxHeartbeats 4000000 in
set_option maxRecDepth 20000 in
theorem walk {w : World} {nodes0 slots0 : Int} {ao0 : Option Addr} {nf0 cp0 : Nat} {F0 : Nat → Fb} (hf0 : Rf w (.slice ao0 nf0 cp0) nf0 F0) (nb0 : nf0 ≤ 9223372036854775807) (wl00 : -9223372036854775808 ≤ nodes0) (wl10 : nodes0 ≤ 9223372036854775807) (wl20 : -9223372036854775808 ≤ slots0) (wl30 : slots0 ≤ 9223372036854775807) (n1 : Int) (na1 : -9223372036854775808 ≤ n1) (nz1 : n1 ≤ 9223372036854775807) :
    Calls Try.prog 3 #[.agg #[.int .i64 nodes0, .int .i64 slots0, .slice ao0 nf0 cp0], .int .i64 n1] w fun e w' => e = .returned (.bool true) ∧ Below w.heap.size w w' := by
  have H0 : Hid (Rf w (.slice ao0 nf0 cp0) nf0 F0) := hf0
  clear hf0
  have D_w : Hid (Below w.heap.size w w) := Below.refl _ _
  have zw : w.heap.size ≤ w.heap.size := Nat.le_refl _
  obtain ⟨c, hcc⟩ : ∃ c, c = Nt.nbcode nodes0 slots0 nf0 F0 n1 := ⟨_, rfl⟩
  have HCC : Hid (c = Nt.nbcode nodes0 slots0 nf0 F0 n1) := hcc
  clear hcc
  go_enter Try.func3, Try.ntmps3
  go_wp2_with fail
  obtain ⟨w1, hwd⟩ : ∃ W, W = w.alloc (.cells #[.int .i64 nodes0, .int .i64 slots0, .slice ao0 nf0 cp0] 24) := ⟨_, rfl⟩
  have B_a0 : Hid (Blk w1 w.heap.size #[.int .i64 nodes0, .int .i64 slots0, .slice ao0 nf0 cp0] 24) := by rw [hwd]; exact Blk.new rfl
  have hbb : Below w.heap.size w w1 := by rw [hwd]; exact (Below.refl _ _).alloc (Nat.le_refl _) _
  rw [← hwd]
  clear hwd
  have zw1 : w.heap.size ≤ w1.heap.size := hbb.size
  replace D_w : Hid (Below w.heap.size w w1) := D_w.out.trans (hbb.mono (by omega))
  clear hbb
  refine (szNet_any _ _ _ _ _ 1048576 _ (by omega) (by omega) nb0).mono ?_
  rintro e w2 ⟨rfl, hbb⟩
  have zw2 : w1.heap.size ≤ w2.heap.size := hbb.size
  replace B_a0 : Hid (Blk w2 w.heap.size #[.int .i64 nodes0, .int .i64 slots0, .slice ao0 nf0 cp0] 24) := B_a0.out.old hbb
  replace D_w : Hid (Below w.heap.size w w2) := D_w.out.trans (hbb.mono (by omega))
  clear hbb
  obtain ⟨left0, hleft0⟩ : ∃ l, l = szN 1048576 nf0 := ⟨_, rfl⟩
  rw [← hleft0]
  by_cases hr0 : left0 < 0
  · go_wp2
    go_ret
    exact ⟨rfl, D_w.out⟩
  have hs0 := szN_ok (hleft0 ▸ hr0)
  have hs0b : left0 ≤ 1048576 := by rw [hleft0]; exact szN_le _ _ (by omega)
  clear hleft0
  have HNM : Hid (c = 0 → (Nt.near F0 n1 nf0).length ≤ 1048576) := fun _ => Nat.le_trans (Nt.near_len nf0) (by omega)
  have c_a0_0 := B_a0.out.cell (j := 0) rfl
  have c_a0_1 := B_a0.out.cell (j := 1) rfl
  have c_a0_2 := B_a0.out.cell (j := 2) rfl
  have l_a0 := B_a0.out.lt
  go_wp2_with fail
  refine (toNet_any (H0.out.later D_w.out) (by omega)).mono ?_
  rintro e w3 ⟨gc0, rfl, hmo, hbb⟩
  clear c_a0_0 c_a0_1 c_a0_2 l_a0
  have zw3 : w2.heap.size ≤ w3.heap.size := hbb.size
  replace B_a0 : Hid (Blk w3 w.heap.size #[.int .i64 nodes0, .int .i64 slots0, .slice ao0 nf0 cp0] 24) := B_a0.out.old hbb
  replace D_w : Hid (Below w.heap.size w w3) := D_w.out.trans (hbb.mono (by omega))
  clear hbb
  have O_c0 : Hid (OwB w2.heap.size w3.heap.size w3 gc0 nf0 F0) := hmo
  clear hmo
  go_wp2_with fail
  refine (sNei_out (v := n1) HCC.out O_c0.out.rd (by omega)).mono ?_
  rintro e w4 ⟨sv, rfl, hoo, hbb⟩
  obtain ⟨sa, sk, sc, esv⟩ : ∃ ao k cap, sv = .slice ao k cap := OutN.shape hoo
  subst esv
  have RS0 : Hid (OutN w4 c (.slice sa sk sc) (Nt.near F0 n1 nf0)) := hoo
  clear hoo
  have zw4 : w3.heap.size ≤ w4.heap.size := hbb.size
  replace B_a0 : Hid (Blk w4 w.heap.size #[.int .i64 nodes0, .int .i64 slots0, .slice ao0 nf0 cp0] 24) := B_a0.out.old hbb
  replace O_c0 : Hid (OwB w2.heap.size w3.heap.size w4 gc0 nf0 F0) := O_c0.out.keep (keep_below hbb (by omega))
  replace D_w : Hid (Below w.heap.size w w4) := D_w.out.trans (hbb.mono (by omega))
  clear hbb
  clear O_c0
  have c_a0_0 := B_a0.out.cell (j := 0) rfl
  have c_a0_1 := B_a0.out.cell (j := 1) rfl
  have c_a0_2 := B_a0.out.cell (j := 2) rfl
  have l_a0 := B_a0.out.lt
  go_wp2_with fail
  obtain ⟨w5, hwd⟩ : ∃ W, W = w4.alloc (.cells #[.int .i64 c, .slice sa sk sc] 28) := ⟨_, rfl⟩
  have NB : Hid (Blk w5 w4.heap.size #[.int .i64 c, .slice sa sk sc] 28) := by rw [hwd]; exact Blk.new rfl
  have hbb : Below w4.heap.size w4 w5 := by rw [hwd]; exact (Below.refl _ _).alloc (Nat.le_refl _) _
  have yw5 : w4.heap.size + 1 ≤ w5.heap.size := by rw [hwd]; simp
  have HWD : Hid (w5 = w4.alloc (.cells #[.int .i64 c, .slice sa sk sc] 28)) := hwd
  rw [← hwd]
  clear hwd
  clear c_a0_0 c_a0_1 c_a0_2 l_a0
  have zw5 : w4.heap.size ≤ w5.heap.size := hbb.size
  replace B_a0 : Hid (Blk w5 w.heap.size #[.int .i64 nodes0, .int .i64 slots0, .slice ao0 nf0 cp0] 24) := B_a0.out.old hbb
  replace D_w : Hid (Below w.heap.size w w5) := D_w.out.trans (hbb.mono (by omega))
  clear hbb
  have B_S := NB
  clear NB
  have RS : Hid (OutN w5 c (.slice sa sk sc) (Nt.near F0 n1 nf0)) := RS0.out.later (show Below w4.heap.size w4 w5 from by rw [HWD.out]; exact (Below.refl _ _).alloc (Nat.le_refl _) _)
  clear RS0 HWD
  have D_w5 : Hid (Below w5.heap.size w5 w5) := Below.refl _ _
  refine (toNet_any (H0.out.later D_w.out) (by omega)).mono ?_
  rintro e w6 ⟨gx0, rfl, hmo, hbb⟩
  have zw6 : w5.heap.size ≤ w6.heap.size := hbb.size
  replace B_a0 : Hid (Blk w6 w.heap.size #[.int .i64 nodes0, .int .i64 slots0, .slice ao0 nf0 cp0] 24) := B_a0.out.old hbb
  replace B_S : Hid (Blk w6 w4.heap.size #[.int .i64 c, .slice sa sk sc] 28) := B_S.out.old hbb
  replace D_w : Hid (Below w.heap.size w w6) := D_w.out.trans (hbb.mono (by omega))
  replace D_w5 : Hid (Below w5.heap.size w5 w6) := D_w5.out.trans (hbb.mono (by omega))
  clear hbb
  have O_x0 : Hid (OwB w5.heap.size w6.heap.size w6 gx0 nf0 F0) := hmo
  clear hmo
  go_wp2_with fail
  obtain ⟨w7, hwd⟩ : ∃ W, W = w6.alloc (.cells #[.int .i64 nodes0, .int .i64 slots0, .slice (some ⟨gx0, 0, none⟩) nf0 nf0] 32) := ⟨_, rfl⟩
  have NB : Hid (Blk w7 w6.heap.size #[.int .i64 nodes0, .int .i64 slots0, .slice (some ⟨gx0, 0, none⟩) nf0 nf0] 32) := by rw [hwd]; exact Blk.new rfl
  have hbb : Below w6.heap.size w6 w7 := by rw [hwd]; exact (Below.refl _ _).alloc (Nat.le_refl _) _
  have yw7 : w6.heap.size + 1 ≤ w7.heap.size := by rw [hwd]; simp
  rw [← hwd]
  clear hwd
  have zw7 : w6.heap.size ≤ w7.heap.size := hbb.size
  replace B_a0 : Hid (Blk w7 w.heap.size #[.int .i64 nodes0, .int .i64 slots0, .slice ao0 nf0 cp0] 24) := B_a0.out.old hbb
  replace B_S : Hid (Blk w7 w4.heap.size #[.int .i64 c, .slice sa sk sc] 28) := B_S.out.old hbb
  replace O_x0 : Hid (OwB w5.heap.size w6.heap.size w7 gx0 nf0 F0) := O_x0.out.keep (keep_below hbb (by omega))
  replace D_w : Hid (Below w.heap.size w w7) := D_w.out.trans (hbb.mono (by omega))
  replace D_w5 : Hid (Below w5.heap.size w5 w7) := D_w5.out.trans (hbb.mono (by omega))
  clear hbb
  have B_x0 := NB
  clear NB
  refine (iNei_any (v := n1) HCC.out O_x0.out.rd (by omega) (Nat.le_refl _)).mono ?_
  rintro e w8 ⟨gv, rfl, hoo, hbb⟩
  obtain ⟨ga, gk, gc, egv⟩ : ∃ ao k cap, gv = .slice ao k cap := OutN.shape hoo.rd
  subst egv
  have zw8 : w7.heap.size ≤ w8.heap.size := hbb.size
  replace B_a0 : Hid (Blk w8 w.heap.size #[.int .i64 nodes0, .int .i64 slots0, .slice ao0 nf0 cp0] 24) := B_a0.out.old hbb
  replace B_S : Hid (Blk w8 w4.heap.size #[.int .i64 c, .slice sa sk sc] 28) := B_S.out.old hbb
  replace B_x0 : Hid (Blk w8 w6.heap.size #[.int .i64 nodes0, .int .i64 slots0, .slice (some ⟨gx0, 0, none⟩) nf0 nf0] 32) := B_x0.out.old hbb
  replace O_x0 : Hid (OwB w5.heap.size w6.heap.size w8 gx0 nf0 F0) := O_x0.out.keep (keep_below hbb (by omega))
  replace D_w : Hid (Below w.heap.size w w8) := D_w.out.trans (hbb.mono (by omega))
  replace D_w5 : Hid (Below w5.heap.size w5 w8) := D_w5.out.trans (hbb.mono (by omega))
  have O_g : Hid (OwnN w7.heap.size w8.heap.size w8 c (.slice ga gk gc) (Nt.near F0 n1 nf0)) := hoo
  clear hoo hbb
  have c_S_0 := B_S.out.cell (j := 0) rfl
  have c_S_1 := B_S.out.cell (j := 1) rfl
  have l_S := B_S.out.lt
  go_wp2_with fail
  obtain ⟨w9, hwd⟩ : ∃ W, W = w8.alloc (.cells #[.int .i64 c, .slice ga gk gc] 28) := ⟨_, rfl⟩
  have NB : Hid (Blk w9 w8.heap.size #[.int .i64 c, .slice ga gk gc] 28) := by rw [hwd]; exact Blk.new rfl
  have hbb : Below w8.heap.size w8 w9 := by rw [hwd]; exact (Below.refl _ _).alloc (Nat.le_refl _) _
  have yw9 : w8.heap.size + 1 ≤ w9.heap.size := by rw [hwd]; simp
  rw [← hwd]
  clear hwd
  clear c_S_0 c_S_1 l_S
  have zw9 : w8.heap.size ≤ w9.heap.size := hbb.size
  replace B_a0 : Hid (Blk w9 w.heap.size #[.int .i64 nodes0, .int .i64 slots0, .slice ao0 nf0 cp0] 24) := B_a0.out.old hbb
  replace B_S : Hid (Blk w9 w4.heap.size #[.int .i64 c, .slice sa sk sc] 28) := B_S.out.old hbb
  replace B_x0 : Hid (Blk w9 w6.heap.size #[.int .i64 nodes0, .int .i64 slots0, .slice (some ⟨gx0, 0, none⟩) nf0 nf0] 32) := B_x0.out.old hbb
  replace O_x0 : Hid (OwB w5.heap.size w6.heap.size w9 gx0 nf0 F0) := O_x0.out.keep (keep_below hbb (by omega))
  replace O_g : Hid (OwnN w7.heap.size w8.heap.size w9 c (.slice ga gk gc) (Nt.near F0 n1 nf0)) := O_g.out.keep (keep_below hbb (by omega))
  replace D_w : Hid (Below w.heap.size w w9) := D_w.out.trans (hbb.mono (by omega))
  replace D_w5 : Hid (Below w5.heap.size w5 w9) := D_w5.out.trans (hbb.mono (by omega))
  clear hbb
  have B_G := NB
  clear NB
  refine (eqN_any O_g.out.rd (RS.out.later D_w5.out) HNM.out).mono ?_
  rintro e w10 ⟨rfl, hbb⟩
  have zw10 : w9.heap.size ≤ w10.heap.size := hbb.size
  replace B_a0 : Hid (Blk w10 w.heap.size #[.int .i64 nodes0, .int .i64 slots0, .slice ao0 nf0 cp0] 24) := B_a0.out.old hbb
  replace B_S : Hid (Blk w10 w4.heap.size #[.int .i64 c, .slice sa sk sc] 28) := B_S.out.old hbb
  replace B_x0 : Hid (Blk w10 w6.heap.size #[.int .i64 nodes0, .int .i64 slots0, .slice (some ⟨gx0, 0, none⟩) nf0 nf0] 32) := B_x0.out.old hbb
  replace B_G : Hid (Blk w10 w8.heap.size #[.int .i64 c, .slice ga gk gc] 28) := B_G.out.old hbb
  replace O_x0 : Hid (OwB w5.heap.size w6.heap.size w10 gx0 nf0 F0) := O_x0.out.keep (keep_below hbb (by omega))
  replace O_g : Hid (OwnN w7.heap.size w8.heap.size w10 c (.slice ga gk gc) (Nt.near F0 n1 nf0)) := O_g.out.keep (keep_below hbb (by omega))
  replace D_w : Hid (Below w.heap.size w w10) := D_w.out.trans (hbb.mono (by omega))
  replace D_w5 : Hid (Below w5.heap.size w5 w10) := D_w5.out.trans (hbb.mono (by omega))
  clear hbb
  have q_x0_0 : ∀ W, Below w10.heap.size w10 W → W.cell? ⟨w6.heap.size, 0, none⟩ = some (.int .i64 nodes0) := fun W h => (B_x0.out.old h).cell (j := 0) rfl
  have q_x0_1 : ∀ W, Below w10.heap.size w10 W → W.cell? ⟨w6.heap.size, 1, none⟩ = some (.int .i64 slots0) := fun W h => (B_x0.out.old h).cell (j := 1) rfl
  have q_x0_2 : ∀ W, Below w10.heap.size w10 W → W.cell? ⟨w6.heap.size, 2, none⟩ = some (.slice (some ⟨gx0, 0, none⟩) nf0 nf0) := fun W h => (B_x0.out.old h).cell (j := 2) rfl
  have q_a0_0 : ∀ W, Below w10.heap.size w10 W → W.cell? ⟨w.heap.size, 0, none⟩ = some (.int .i64 nodes0) := fun W h => (B_a0.out.old h).cell (j := 0) rfl
  have q_a0_1 : ∀ W, Below w10.heap.size w10 W → W.cell? ⟨w.heap.size, 1, none⟩ = some (.int .i64 slots0) := fun W h => (B_a0.out.old h).cell (j := 1) rfl
  have q_a0_2 : ∀ W, Below w10.heap.size w10 W → W.cell? ⟨w.heap.size, 2, none⟩ = some (.slice ao0 nf0 cp0) := fun W h => (B_a0.out.old h).cell (j := 2) rfl
  have QA : ∀ W, Below w10.heap.size w10 W → Hid (Rf W (.slice ao0 nf0 cp0) nf0 F0) := fun W h => H0.out.later (D_w.out.trans (h.mono (by omega)))
  have QX : ∀ W, Below w10.heap.size w10 W → Hid (OwB w5.heap.size w6.heap.size W gx0 nf0 F0) := fun W h => O_x0.out.keep (keep_below h (by omega))
  go_wp2_with fail
  go_region_held (fun W => Below w10.heap.size w10 W) (go_grown)
    (first | (go_at_call 7; refine Calls.mono (toNet_any (QA _ (by go_grown)).out (by omega)) ?_; rintro e w11 ⟨gqa, rfl, hmo, hb1⟩; have hR1 : Below w10.heap.size w10 w11 := box_step (by go_grown) hb1 (Nat.le_refl _)) | (go_at_call 10; refine Calls.mono (eqNet_any (QX _ (by go_grown)).out hmo (by omega)) ?_; rintro e w12 ⟨rfl, hb2⟩; have hR2 : Below w10.heap.size w10 w12 := box_step hR1 hb2 (Nat.le_refl _)))
  have hbb : Below w10.heap.size w10 w12 := hR2
  clear hR1 hR2 hmo hb1 hb2 QA QX q_x0_0 q_x0_1 q_x0_2 q_a0_0 q_a0_1 q_a0_2
  have zw12 : w10.heap.size ≤ w12.heap.size := hbb.size
  replace B_a0 : Hid (Blk w12 w.heap.size #[.int .i64 nodes0, .int .i64 slots0, .slice ao0 nf0 cp0] 24) := B_a0.out.old hbb
  replace B_S : Hid (Blk w12 w4.heap.size #[.int .i64 c, .slice sa sk sc] 28) := B_S.out.old hbb
  replace B_x0 : Hid (Blk w12 w6.heap.size #[.int .i64 nodes0, .int .i64 slots0, .slice (some ⟨gx0, 0, none⟩) nf0 nf0] 32) := B_x0.out.old hbb
  replace B_G : Hid (Blk w12 w8.heap.size #[.int .i64 c, .slice ga gk gc] 28) := B_G.out.old hbb
  replace O_x0 : Hid (OwB w5.heap.size w6.heap.size w12 gx0 nf0 F0) := O_x0.out.keep (keep_below hbb (by omega))
  replace O_g : Hid (OwnN w7.heap.size w8.heap.size w12 c (.slice ga gk gc) (Nt.near F0 n1 nf0)) := O_g.out.keep (keep_below hbb (by omega))
  replace D_w : Hid (Below w.heap.size w w12) := D_w.out.trans (hbb.mono (by omega))
  replace D_w5 : Hid (Below w5.heap.size w5 w12) := D_w5.out.trans (hbb.mono (by omega))
  clear hbb
  have c_x0_0 := B_x0.out.cell (j := 0) rfl
  have c_x0_1 := B_x0.out.cell (j := 1) rfl
  have c_x0_2 := B_x0.out.cell (j := 2) rfl
  have l_x0 := B_x0.out.lt
  go_wp2_with fail
  refine (markNet_any 1 O_x0.out (by omega) (by omega) (by omega) (by omega)).mono ?_
  rintro e w13 ⟨rfl, hww⟩
  clear c_x0_0 c_x0_1 c_x0_2 l_x0
  have zw13 : w12.heap.size ≤ w13.heap.size := hww.below.size
  replace B_a0 : Hid (Blk w13 w.heap.size #[.int .i64 nodes0, .int .i64 slots0, .slice ao0 nf0 cp0] 24) := B_a0.out.within hww (by omega)
  replace B_S : Hid (Blk w13 w4.heap.size #[.int .i64 c, .slice sa sk sc] 28) := B_S.out.within hww (by omega)
  replace B_x0 : Hid (Blk w13 w6.heap.size #[.int .i64 nodes0, .int .i64 slots0, .slice (some ⟨gx0, 0, none⟩) nf0 nf0] 32) := B_x0.out.within hww (by omega)
  replace B_G : Hid (Blk w13 w8.heap.size #[.int .i64 c, .slice ga gk gc] 28) := B_G.out.within hww (by omega)
  replace O_g : Hid (OwnN w7.heap.size w8.heap.size w13 c (.slice ga gk gc) (Nt.near F0 n1 nf0)) := O_g.out.keep (keep_apart hww (by omega) (by omega))
  replace D_w : Hid (Below w.heap.size w w13) := D_w.out.trans (hww.below.mono (by omega))
  replace D_w5 : Hid (Below w5.heap.size w5 w13) := D_w5.out.trans (hww.below.mono (by omega))
  clear hww O_x0
  obtain ⟨k1, hk⟩ : ∃ k : Int, k = mF 1 nf0 := ⟨_, rfl⟩
  have hk1a : 0 ≤ k1 := by rw [hk]; unfold mF; omega
  have hk1b : k1 ≤ 1 + 8000000 := by rw [hk]; unfold mF; omega
  rw [← hk]
  clear hk
  have c_G_0 := B_G.out.cell (j := 0) rfl
  have c_G_1 := B_G.out.cell (j := 1) rfl
  have l_G := B_G.out.lt
  have c_S_0 := B_S.out.cell (j := 0) rfl
  have c_S_1 := B_S.out.cell (j := 1) rfl
  have l_S := B_S.out.lt
  go_wp2_with fail
  refine (eqN_any O_g.out.rd (RS.out.later D_w5.out) HNM.out).mono ?_
  rintro e w14 ⟨rfl, hbb⟩
  clear c_G_0 c_G_1 l_G c_S_0 c_S_1 l_S
  have zw14 : w13.heap.size ≤ w14.heap.size := hbb.size
  replace B_a0 : Hid (Blk w14 w.heap.size #[.int .i64 nodes0, .int .i64 slots0, .slice ao0 nf0 cp0] 24) := B_a0.out.old hbb
  replace B_S : Hid (Blk w14 w4.heap.size #[.int .i64 c, .slice sa sk sc] 28) := B_S.out.old hbb
  replace B_x0 : Hid (Blk w14 w6.heap.size #[.int .i64 nodes0, .int .i64 slots0, .slice (some ⟨gx0, 0, none⟩) nf0 nf0] 32) := B_x0.out.old hbb
  replace B_G : Hid (Blk w14 w8.heap.size #[.int .i64 c, .slice ga gk gc] 28) := B_G.out.old hbb
  replace O_g : Hid (OwnN w7.heap.size w8.heap.size w14 c (.slice ga gk gc) (Nt.near F0 n1 nf0)) := O_g.out.keep (keep_below hbb (by omega))
  replace D_w : Hid (Below w.heap.size w w14) := D_w.out.trans (hbb.mono (by omega))
  replace D_w5 : Hid (Below w5.heap.size w5 w14) := D_w5.out.trans (hbb.mono (by omega))
  clear hbb
  have c_G_0 := B_G.out.cell (j := 0) rfl
  have c_G_1 := B_G.out.cell (j := 1) rfl
  have l_G := B_G.out.lt
  go_wp2_with fail
  refine (markN_any O_g.out HNM.out (by omega) (by omega)).mono ?_
  rintro e w15 ⟨r, rfl, hmk, hww⟩
  clear c_G_0 c_G_1 l_G
  have hr0 : 0 ≤ r := hmk.pos
  have zw15 : w14.heap.size ≤ w15.heap.size := hww.below.size
  replace B_a0 : Hid (Blk w15 w.heap.size #[.int .i64 nodes0, .int .i64 slots0, .slice ao0 nf0 cp0] 24) := B_a0.out.within hww (by omega)
  replace B_S : Hid (Blk w15 w4.heap.size #[.int .i64 c, .slice sa sk sc] 28) := B_S.out.within hww (by omega)
  replace B_x0 : Hid (Blk w15 w6.heap.size #[.int .i64 nodes0, .int .i64 slots0, .slice (some ⟨gx0, 0, none⟩) nf0 nf0] 32) := B_x0.out.within hww (by omega)
  replace B_G : Hid (Blk w15 w8.heap.size #[.int .i64 c, .slice ga gk gc] 28) := B_G.out.within hww (by omega)
  replace D_w : Hid (Below w.heap.size w w15) := D_w.out.trans (hww.below.mono (by omega))
  replace D_w5 : Hid (Below w5.heap.size w5 w15) := D_w5.out.trans (hww.below.mono (by omega))
  replace O_g : Hid (MkdN w7.heap.size w8.heap.size w15 c (.slice ga gk gc) (Nt.near F0 n1 nf0) r) := hmk
  clear hmk hww
  have c_G_0 := B_G.out.cell (j := 0) rfl
  have c_G_1 := B_G.out.cell (j := 1) rfl
  have l_G := B_G.out.lt
  go_wp2_with fail
  refine (heldN_any O_g.out HNM.out (by omega)).mono ?_
  rintro e w16 ⟨rfl, hbb⟩
  clear c_G_0 c_G_1 l_G
  have zw16 : w15.heap.size ≤ w16.heap.size := hbb.size
  replace B_a0 : Hid (Blk w16 w.heap.size #[.int .i64 nodes0, .int .i64 slots0, .slice ao0 nf0 cp0] 24) := B_a0.out.old hbb
  replace B_S : Hid (Blk w16 w4.heap.size #[.int .i64 c, .slice sa sk sc] 28) := B_S.out.old hbb
  replace B_x0 : Hid (Blk w16 w6.heap.size #[.int .i64 nodes0, .int .i64 slots0, .slice (some ⟨gx0, 0, none⟩) nf0 nf0] 32) := B_x0.out.old hbb
  replace B_G : Hid (Blk w16 w8.heap.size #[.int .i64 c, .slice ga gk gc] 28) := B_G.out.old hbb
  replace O_g : Hid (MkdN w7.heap.size w8.heap.size w16 c (.slice ga gk gc) (Nt.near F0 n1 nf0) r) := O_g.out.keep (keep_below hbb (by omega))
  replace D_w : Hid (Below w.heap.size w w16) := D_w.out.trans (hbb.mono (by omega))
  replace D_w5 : Hid (Below w5.heap.size w5 w16) := D_w5.out.trans (hbb.mono (by omega))
  clear hbb
  have c_a0_0 := B_a0.out.cell (j := 0) rfl
  have c_a0_1 := B_a0.out.cell (j := 1) rfl
  have c_a0_2 := B_a0.out.cell (j := 2) rfl
  have l_a0 := B_a0.out.lt
  go_wp2_with fail
  refine (toNet_any (H0.out.later D_w.out) (by omega)).mono ?_
  rintro e w17 ⟨gh0, rfl, hmo, hbb⟩
  clear c_a0_0 c_a0_1 c_a0_2 l_a0
  have zw17 : w16.heap.size ≤ w17.heap.size := hbb.size
  replace B_a0 : Hid (Blk w17 w.heap.size #[.int .i64 nodes0, .int .i64 slots0, .slice ao0 nf0 cp0] 24) := B_a0.out.old hbb
  replace B_S : Hid (Blk w17 w4.heap.size #[.int .i64 c, .slice sa sk sc] 28) := B_S.out.old hbb
  replace B_x0 : Hid (Blk w17 w6.heap.size #[.int .i64 nodes0, .int .i64 slots0, .slice (some ⟨gx0, 0, none⟩) nf0 nf0] 32) := B_x0.out.old hbb
  replace B_G : Hid (Blk w17 w8.heap.size #[.int .i64 c, .slice ga gk gc] 28) := B_G.out.old hbb
  replace O_g : Hid (MkdN w7.heap.size w8.heap.size w17 c (.slice ga gk gc) (Nt.near F0 n1 nf0) r) := O_g.out.keep (keep_below hbb (by omega))
  replace D_w : Hid (Below w.heap.size w w17) := D_w.out.trans (hbb.mono (by omega))
  replace D_w5 : Hid (Below w5.heap.size w5 w17) := D_w5.out.trans (hbb.mono (by omega))
  clear hbb
  have O_h0 : Hid (OwB w16.heap.size w17.heap.size w17 gh0 nf0 F0) := hmo
  clear hmo
  go_wp2_with fail
  refine (iNei_any (v := n1) HCC.out O_h0.out.rd (by omega) (Nat.le_refl _)).mono ?_
  rintro e w18 ⟨hv, rfl, hoo, hbb⟩
  obtain ⟨ha, hk, hc, ehv⟩ : ∃ ao k cap, hv = .slice ao k cap := OutN.shape hoo.rd
  subst ehv
  have zw18 : w17.heap.size ≤ w18.heap.size := hbb.size
  replace B_a0 : Hid (Blk w18 w.heap.size #[.int .i64 nodes0, .int .i64 slots0, .slice ao0 nf0 cp0] 24) := B_a0.out.old hbb
  replace B_S : Hid (Blk w18 w4.heap.size #[.int .i64 c, .slice sa sk sc] 28) := B_S.out.old hbb
  replace B_x0 : Hid (Blk w18 w6.heap.size #[.int .i64 nodes0, .int .i64 slots0, .slice (some ⟨gx0, 0, none⟩) nf0 nf0] 32) := B_x0.out.old hbb
  replace B_G : Hid (Blk w18 w8.heap.size #[.int .i64 c, .slice ga gk gc] 28) := B_G.out.old hbb
  replace O_g : Hid (MkdN w7.heap.size w8.heap.size w18 c (.slice ga gk gc) (Nt.near F0 n1 nf0) r) := O_g.out.keep (keep_below hbb (by omega))
  replace O_h0 : Hid (OwB w16.heap.size w17.heap.size w18 gh0 nf0 F0) := O_h0.out.keep (keep_below hbb (by omega))
  replace D_w : Hid (Below w.heap.size w w18) := D_w.out.trans (hbb.mono (by omega))
  replace D_w5 : Hid (Below w5.heap.size w5 w18) := D_w5.out.trans (hbb.mono (by omega))
  have O_h : Hid (OwnN w17.heap.size w18.heap.size w18 c (.slice ha hk hc) (Nt.near F0 n1 nf0)) := hoo
  clear hoo hbb
  have c_S_0 := B_S.out.cell (j := 0) rfl
  have c_S_1 := B_S.out.cell (j := 1) rfl
  have l_S := B_S.out.lt
  go_wp2_with fail
  obtain ⟨w19, hwd⟩ : ∃ W, W = w18.alloc (.cells #[.int .i64 c, .slice ha hk hc] 28) := ⟨_, rfl⟩
  have NB : Hid (Blk w19 w18.heap.size #[.int .i64 c, .slice ha hk hc] 28) := by rw [hwd]; exact Blk.new rfl
  have hbb : Below w18.heap.size w18 w19 := by rw [hwd]; exact (Below.refl _ _).alloc (Nat.le_refl _) _
  have yw19 : w18.heap.size + 1 ≤ w19.heap.size := by rw [hwd]; simp
  rw [← hwd]
  clear hwd
  clear c_S_0 c_S_1 l_S
  have zw19 : w18.heap.size ≤ w19.heap.size := hbb.size
  replace B_a0 : Hid (Blk w19 w.heap.size #[.int .i64 nodes0, .int .i64 slots0, .slice ao0 nf0 cp0] 24) := B_a0.out.old hbb
  replace B_S : Hid (Blk w19 w4.heap.size #[.int .i64 c, .slice sa sk sc] 28) := B_S.out.old hbb
  replace B_x0 : Hid (Blk w19 w6.heap.size #[.int .i64 nodes0, .int .i64 slots0, .slice (some ⟨gx0, 0, none⟩) nf0 nf0] 32) := B_x0.out.old hbb
  replace B_G : Hid (Blk w19 w8.heap.size #[.int .i64 c, .slice ga gk gc] 28) := B_G.out.old hbb
  replace O_g : Hid (MkdN w7.heap.size w8.heap.size w19 c (.slice ga gk gc) (Nt.near F0 n1 nf0) r) := O_g.out.keep (keep_below hbb (by omega))
  replace O_h0 : Hid (OwB w16.heap.size w17.heap.size w19 gh0 nf0 F0) := O_h0.out.keep (keep_below hbb (by omega))
  replace O_h : Hid (OwnN w17.heap.size w18.heap.size w19 c (.slice ha hk hc) (Nt.near F0 n1 nf0)) := O_h.out.keep (keep_below hbb (by omega))
  replace D_w : Hid (Below w.heap.size w w19) := D_w.out.trans (hbb.mono (by omega))
  replace D_w5 : Hid (Below w5.heap.size w5 w19) := D_w5.out.trans (hbb.mono (by omega))
  clear hbb
  have B_H := NB
  clear NB
  refine (eqN_any O_h.out.rd (RS.out.later D_w5.out) HNM.out).mono ?_
  rintro e w20 ⟨rfl, hbb⟩
  have zw20 : w19.heap.size ≤ w20.heap.size := hbb.size
  replace B_a0 : Hid (Blk w20 w.heap.size #[.int .i64 nodes0, .int .i64 slots0, .slice ao0 nf0 cp0] 24) := B_a0.out.old hbb
  replace B_S : Hid (Blk w20 w4.heap.size #[.int .i64 c, .slice sa sk sc] 28) := B_S.out.old hbb
  replace B_x0 : Hid (Blk w20 w6.heap.size #[.int .i64 nodes0, .int .i64 slots0, .slice (some ⟨gx0, 0, none⟩) nf0 nf0] 32) := B_x0.out.old hbb
  replace B_G : Hid (Blk w20 w8.heap.size #[.int .i64 c, .slice ga gk gc] 28) := B_G.out.old hbb
  replace B_H : Hid (Blk w20 w18.heap.size #[.int .i64 c, .slice ha hk hc] 28) := B_H.out.old hbb
  replace O_g : Hid (MkdN w7.heap.size w8.heap.size w20 c (.slice ga gk gc) (Nt.near F0 n1 nf0) r) := O_g.out.keep (keep_below hbb (by omega))
  replace O_h0 : Hid (OwB w16.heap.size w17.heap.size w20 gh0 nf0 F0) := O_h0.out.keep (keep_below hbb (by omega))
  replace O_h : Hid (OwnN w17.heap.size w18.heap.size w20 c (.slice ha hk hc) (Nt.near F0 n1 nf0)) := O_h.out.keep (keep_below hbb (by omega))
  replace D_w : Hid (Below w.heap.size w w20) := D_w.out.trans (hbb.mono (by omega))
  replace D_w5 : Hid (Below w5.heap.size w5 w20) := D_w5.out.trans (hbb.mono (by omega))
  clear hbb
  have c_G_0 := B_G.out.cell (j := 0) rfl
  have c_G_1 := B_G.out.cell (j := 1) rfl
  have l_G := B_G.out.lt
  go_wp2_with fail
  refine (heldN_any O_g.out HNM.out (by omega)).mono ?_
  rintro e w21 ⟨rfl, hbb⟩
  clear c_G_0 c_G_1 l_G
  have zw21 : w20.heap.size ≤ w21.heap.size := hbb.size
  replace B_a0 : Hid (Blk w21 w.heap.size #[.int .i64 nodes0, .int .i64 slots0, .slice ao0 nf0 cp0] 24) := B_a0.out.old hbb
  replace B_S : Hid (Blk w21 w4.heap.size #[.int .i64 c, .slice sa sk sc] 28) := B_S.out.old hbb
  replace B_x0 : Hid (Blk w21 w6.heap.size #[.int .i64 nodes0, .int .i64 slots0, .slice (some ⟨gx0, 0, none⟩) nf0 nf0] 32) := B_x0.out.old hbb
  replace B_G : Hid (Blk w21 w8.heap.size #[.int .i64 c, .slice ga gk gc] 28) := B_G.out.old hbb
  replace B_H : Hid (Blk w21 w18.heap.size #[.int .i64 c, .slice ha hk hc] 28) := B_H.out.old hbb
  replace O_g : Hid (MkdN w7.heap.size w8.heap.size w21 c (.slice ga gk gc) (Nt.near F0 n1 nf0) r) := O_g.out.keep (keep_below hbb (by omega))
  replace O_h0 : Hid (OwB w16.heap.size w17.heap.size w21 gh0 nf0 F0) := O_h0.out.keep (keep_below hbb (by omega))
  replace O_h : Hid (OwnN w17.heap.size w18.heap.size w21 c (.slice ha hk hc) (Nt.near F0 n1 nf0)) := O_h.out.keep (keep_below hbb (by omega))
  replace D_w : Hid (Below w.heap.size w w21) := D_w.out.trans (hbb.mono (by omega))
  replace D_w5 : Hid (Below w5.heap.size w5 w21) := D_w5.out.trans (hbb.mono (by omega))
  clear hbb
  go_wp2
  go_ret
  exact ⟨rfl, D_w.out⟩

set_option maxRecDepth 100000 in
theorem lifted (os : Os) (started : os.Started) (H : Type) (enc : TypeId × Value → H) :
    ReturnsInHanded {} Try.checked os 3 .any (Rows.fnExactNeighboursOfSpec.pre6 enc Try.prog Try.f3 Rows.fnExactNeighboursOfRow.domain false) (Rows.fnExactNeighboursOfSpec.post enc Try.prog Try.f3 false true false false) := by
  refine returnsInHanded_of_change (C := Try.checked) own started (by kernel_rfl) Try.func3
    (ChangeSpec.witness6 (enc := enc) (C := Try.checked) false ⟨#[], #[.agg #[.int .i64 0, .int .i64 0, .slice none 0 0], .int .i64 0], []⟩ 8 (by kernel_rfl) (by kernel_rfl) (by kernel_rfl) (by kernel_rfl)) ?_
  intro W base args ds gs before hval0 hW hcnd _
  have hval : ∀ (j : Nat) t v, Try.f3.params[j]? = some t → args[j]? = some v → Value.okWide Try.prog W .any base t v := hval0
  have hW' := hW
  obtain ⟨p, q, hA0, hV, rfl, hfz, hnd⟩ := hW
  have hA : DataW.TrodAll enc Try.prog W 0 (fun _ => true) true Try.f3.params.toList args.toList ds p := hA0
  rw [Try.params3] at hA hval
  obtain ⟨v0, vs0, d0, ds0, p0, q0, hargs, rfl, rfl, h0, r0⟩ := trodAll_cons hA
  obtain ⟨v1, vs1, d1, ds1, p1, q1, rfl, rfl, rfl, h1, r1⟩ := trodAll_cons r0
  obtain ⟨rfl, rfl, rfl⟩ := trodAll_nil r1
  obtain rfl : args = #[v0, v1] := by cases args; simp_all
  obtain ⟨rfl, rfl⟩ := trodVars_none hV
  have k0 := h0
  have lt0 : ∀ x ∈ p0, x.block < W.heap.size := by obtain ⟨m, hm⟩ := k0; exact DataW.trod_lt m _ _ _ hm
  obtain ⟨nodes0, slots0, ao0, nf0, cp0, F0, rfl, R0, nb0, wl00, wl10, wl20, wl30⟩ := open_net (hval 0 24 v0 rfl rfl) h0
  have k1 := h1
  have lt1 : ∀ x ∈ p1, x.block < W.heap.size := by obtain ⟨m, hm⟩ := k1; exact DataW.trod_lt m _ _ _ hm
  obtain ⟨n1, rfl, _, _, w1⟩ := open_int Try.underlying2 (hval 1 2 v1 rfl rfl) h1
  clear hA0 hval0
  refine (walk R0 nb0 wl00 wl10 wl20 wl30 n1 (i64_lo w1) (i64_hi w1)).mono fun e W' ⟨he, bel⟩ => ?_
  subst he
  exact ⟨_, rfl, _, _, _, [], _, [], hW', trodAll_mk1 (shut_bool Try.underlying4 _), (trodAll_cons_mk (Below.trod laidOut (by kernel_rfl) (of_decide_eq_true (by kernel_rfl)) k0 bel lt0) (trodAll_cons_mk (Below.trod laidOut (by kernel_rfl) (of_decide_eq_true (by kernel_rfl)) k1 bel lt1) trodAll_mk0)), rfl, bel.frame _, fun h => by cases h⟩

theorem over : Rows.fnExactNeighboursOfRow.holds Try.pinned (OpenSpec.ofChange Rows.fnExactNeighboursOfSpec) :=
  OpenClaim.holds_of_wide 3 Try.f3 rfl rfl rfl rfl rfl rfl rfl ⟨rfl, rfl, rfl, rfl, rfl⟩ rfl rfl rfl rfl rfl (by kernel_rfl) Try.func3 (by kernel_rfl)
    (of_decide_eq_true (by kernel_rfl)) (by unfold Func.isWrapper; first | (rw [if_pos (by decide +kernel)]; kernel_rfl) | (rw [if_neg (by decide +kernel)]; exact ⟨rfl, rfl⟩))
    (fun os started H enc _ => lifted os started H enc)
end Go.Proofs.Ytfpklfpcencimaa.LawNeighboursOf
namespace Go.Proofs.Ytfpklfpcencimaa
theorem neighboursOf_holds : Rows.FnExactNeighboursOfSaid := LawNeighboursOf.over
#print axioms neighboursOf_holds
end Go.Proofs.Ytfpklfpcencimaa
