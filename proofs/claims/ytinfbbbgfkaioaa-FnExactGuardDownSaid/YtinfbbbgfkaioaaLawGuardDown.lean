/- At every argument the program's GuardDown answers as the specification, where the law's own bound on the sizes does not answer first; what it answers owns its memory; nothing that was there is changed. -/
import Derived.Test.YtinfbbbgfkaioaaGx
import Derived.Test.YtinfbbbgfkaioaaOl
import Derived.Test.YtinfbbbgfkaioaaOg
import Derived.Test.YtinfbbbgfkaioaaRw
import Derived.Test.YtinfbbbgfkaioaaLm
import Derived.Handy
import Derived.Deep.RegionHeld3
import Derived.Deep.DeepCutAuto
namespace Go.Proofs.Ytinfbbbgfkaioaa.LawGuardDown
open Go.ChangeShapes Go.WideShapes Go.ChangeAt Go.RowKit Go.Joins
set_option linter.unusedVariables false

set_option maxHeartbeats 4000000 in
set_option maxRecDepth 20000 in
theorem walk {w : World} {nodes0 slots0 : Int} {ao0 : Option Addr} {nf0 cp0 : Nat} {F0 : Nat → Fb} (hf0 : Rf w (.slice ao0 nf0 cp0) nf0 F0) (nb0 : nf0 ≤ 9223372036854775807) (wl00 : -9223372036854775808 ≤ nodes0) (wl10 : nodes0 ≤ 9223372036854775807) (wl20 : -9223372036854775808 ≤ slots0) (wl30 : slots0 ≤ 9223372036854775807) {v1 : Value} {nl1 : Nat} {L1 : Nat → Li} (h1 : RdL w v1 nl1 L1) (nb1 : nl1 ≤ 9223372036854775807) (lb1 : LBd nl1 L1) {v2 : Value} {ng2 : Nat} {G2 : Nat → Gu} (h2 : Rg w v2 ng2 G2) (nb2 : ng2 ≤ 9223372036854775807) (n3 : Int) (na3 : -9223372036854775808 ≤ n3) (nz3 : n3 ≤ 9223372036854775807) :
    Calls Try.prog 3 #[.agg #[.int .i64 nodes0, .int .i64 slots0, .slice ao0 nf0 cp0], v1, v2, .int .i64 n3] w fun e w' => e = .returned (.bool true) ∧ Below w.heap.size w w' := by
  have H0 : Hid (Rf w (.slice ao0 nf0 cp0) nf0 F0) := hf0
  clear hf0
  obtain ⟨va1, vc1, ev1⟩ : ∃ ao cap, v1 = .slice ao nl1 cap := h1.shape
  subst ev1
  have H1 : Hid (RdL w (.slice va1 nl1 vc1) nl1 L1) := h1
  have HB1 : Hid (LBd nl1 L1) := lb1
  clear h1 lb1
  obtain ⟨va2, vc2, ev2⟩ : ∃ ao cap, v2 = .slice ao ng2 cap := rg_shape h2
  subst ev2
  have H2 : Hid (Rg w (.slice va2 ng2 vc2) ng2 G2) := h2
  clear h2
  have D_w : Hid (Below w.heap.size w w) := Below.refl _ _
  have zw : w.heap.size ≤ w.heap.size := Nat.le_refl _
  obtain ⟨c, hcc⟩ : ∃ c, c = gdcode nodes0 slots0 nf0 F0 nl1 L1 ng2 G2 n3 := ⟨_, rfl⟩
  have HCC : Hid (c = gdcode nodes0 slots0 nf0 F0 nl1 L1 ng2 G2 n3) := hcc
  clear hcc
  go_enter Try.func3, Try.ntmps3
  go_wp2_with fail
  obtain ⟨w1, hwd⟩ : ∃ W, W = w.alloc (.cells #[.int .i64 nodes0, .int .i64 slots0, .slice ao0 nf0 cp0] 24) := ⟨_, rfl⟩
  have B_a0 : Hid (Blk w1 w.heap.size #[.int .i64 nodes0, .int .i64 slots0, .slice ao0 nf0 cp0] 24) := by rw [hwd]; exact Blk.new rfl
  have hbb : Below w.heap.size w w1 := by rw [hwd]; exact (Below.refl _ _).alloc (Nat.le_refl _) _
  rw [← hwd]
  clear hwd
  have zw1 : w.heap.size ≤ w1.heap.size := hbb.size
  replace D_w : Hid (Below w.heap.size w w1) := D_w.out.trans (hbb.mono (by omega))
  clear hbb
  refine (szNet_any _ _ _ _ _ 1048576 _ (by omega) (by omega) nb0).mono ?_
  rintro e w2 ⟨rfl, hbb⟩
  have zw2 : w1.heap.size ≤ w2.heap.size := hbb.size
  replace B_a0 : Hid (Blk w2 w.heap.size #[.int .i64 nodes0, .int .i64 slots0, .slice ao0 nf0 cp0] 24) := B_a0.out.old hbb
  replace D_w : Hid (Below w.heap.size w w2) := D_w.out.trans (hbb.mono (by omega))
  clear hbb
  obtain ⟨left0, hleft0⟩ : ∃ l, l = szN 1048576 nf0 := ⟨_, rfl⟩
  rw [← hleft0]
  by_cases hr0 : left0 < 0
  · go_wp2
    go_ret
    exact ⟨rfl, D_w.out⟩
  have hs0 := szN_ok (hleft0 ▸ hr0)
  have hs0b : left0 ≤ 1048576 := by rw [hleft0]; exact szN_le _ _ (by omega)
  clear hleft0
  have c_a0_0 := B_a0.out.cell (j := 0) rfl
  have c_a0_1 := B_a0.out.cell (j := 1) rfl
  have c_a0_2 := B_a0.out.cell (j := 2) rfl
  have l_a0 := B_a0.out.lt
  go_wp2_with fail
  refine (szLits_any (H1.out.later D_w.out) left0 (by omega) (by omega) nb1 HB1.out).mono ?_
  rintro e w3 ⟨left1, rfl, ht, hbb⟩
  clear c_a0_0 c_a0_1 c_a0_2 l_a0
  have zw3 : w2.heap.size ≤ w3.heap.size := hbb.size
  replace B_a0 : Hid (Blk w3 w.heap.size #[.int .i64 nodes0, .int .i64 slots0, .slice ao0 nf0 cp0] 24) := B_a0.out.old hbb
  replace D_w : Hid (Below w.heap.size w w3) := D_w.out.trans (hbb.mono (by omega))
  clear hbb
  have HT1 : Hid (ToldL nl1 L1 left0 left1) := ht
  clear ht
  by_cases hr1 : left1 < 0
  · go_wp2
    go_ret
    exact ⟨rfl, D_w.out⟩
  have hs1 := ToldL.ok HT1.out hr1
  have hs1b : left1 ≤ left0 := ToldL.le HT1.out hr1
  have hm1 : (nl1 : Int) ≤ 1048576 := by omega
  have HS1 : Hid (LFew nl1 L1) := ⟨by omega, by have := hs1; omega⟩
  clear HT1
  have c_a0_0 := B_a0.out.cell (j := 0) rfl
  have c_a0_1 := B_a0.out.cell (j := 1) rfl
  have c_a0_2 := B_a0.out.cell (j := 2) rfl
  have l_a0 := B_a0.out.lt
  go_wp2_with fail
  refine (szG_any _ _ _ left1 _ (by omega) (by omega) nb2).mono ?_
  rintro e w4 ⟨rfl, hbb⟩
  clear c_a0_0 c_a0_1 c_a0_2 l_a0
  have zw4 : w3.heap.size ≤ w4.heap.size := hbb.size
  replace B_a0 : Hid (Blk w4 w.heap.size #[.int .i64 nodes0, .int .i64 slots0, .slice ao0 nf0 cp0] 24) := B_a0.out.old hbb
  replace D_w : Hid (Below w.heap.size w w4) := D_w.out.trans (hbb.mono (by omega))
  clear hbb
  obtain ⟨left2, hleft2⟩ : ∃ l, l = szN left1 ng2 := ⟨_, rfl⟩
  rw [← hleft2]
  by_cases hr2 : left2 < 0
  · go_wp2
    go_ret
    exact ⟨rfl, D_w.out⟩
  have hs2 := szN_ok (hleft2 ▸ hr2)
  have hs2b : left2 ≤ left1 := by rw [hleft2]; exact szN_le _ _ (by omega)
  clear hleft2
  have HNM : Hid (c = 0 → LFew (nl1 - 2) (gdL L1 nl1 G2 ng2 n3) ∧ ng2 - 1 ≤ 1048576) := fun hz => gd_few HCC.out hz (by omega)
  have c_a0_0 := B_a0.out.cell (j := 0) rfl
  have c_a0_1 := B_a0.out.cell (j := 1) rfl
  have c_a0_2 := B_a0.out.cell (j := 2) rfl
  have l_a0 := B_a0.out.lt
  go_wp2_with fail
  refine (toNet_any (H0.out.later D_w.out) (by omega)).mono ?_
  rintro e w5 ⟨gc0, rfl, hmo, hbb⟩
  clear c_a0_0 c_a0_1 c_a0_2 l_a0
  have zw5 : w4.heap.size ≤ w5.heap.size := hbb.size
  replace B_a0 : Hid (Blk w5 w.heap.size #[.int .i64 nodes0, .int .i64 slots0, .slice ao0 nf0 cp0] 24) := B_a0.out.old hbb
  replace D_w : Hid (Below w.heap.size w w5) := D_w.out.trans (hbb.mono (by omega))
  clear hbb
  have O_c0 : Hid (OwB w4.heap.size w5.heap.size w5 gc0 nf0 F0) := hmo
  clear hmo
  go_wp2_with fail
  refine (toLits_any (H1.out.later D_w.out) HS1.out).mono ?_
  rintro e w6 ⟨gc1, rfl, hmo, hbb⟩
  have zw6 : w5.heap.size ≤ w6.heap.size := hbb.size
  replace B_a0 : Hid (Blk w6 w.heap.size #[.int .i64 nodes0, .int .i64 slots0, .slice ao0 nf0 cp0] 24) := B_a0.out.old hbb
  replace O_c0 : Hid (OwB w4.heap.size w5.heap.size w6 gc0 nf0 F0) := O_c0.out.keep (keep_below hbb (by omega))
  replace D_w : Hid (Below w.heap.size w w6) := D_w.out.trans (hbb.mono (by omega))
  clear hbb
  have O_c1 : Hid (OwLs w5.heap.size w6.heap.size w6 gc1 nl1 L1) := hmo
  clear hmo
  go_wp2_with fail
  refine (toG_any (H2.out.later D_w.out) (by omega)).mono ?_
  rintro e w7 ⟨rfl, hmo, hbb⟩
  have zw7 : w6.heap.size ≤ w7.heap.size := hbb.size
  replace B_a0 : Hid (Blk w7 w.heap.size #[.int .i64 nodes0, .int .i64 slots0, .slice ao0 nf0 cp0] 24) := B_a0.out.old hbb
  replace O_c0 : Hid (OwB w4.heap.size w5.heap.size w7 gc0 nf0 F0) := O_c0.out.keep (keep_below hbb (by omega))
  replace O_c1 : Hid (OwLs w5.heap.size w6.heap.size w7 gc1 nl1 L1) := O_c1.out.keep (keep_below hbb (by omega))
  replace D_w : Hid (Below w.heap.size w w7) := D_w.out.trans (hbb.mono (by omega))
  clear hbb
  have O_c2 : Hid (OwG w6.heap.size w7.heap.size w7 w6.heap.size ng2 G2) := hmo
  clear hmo
  go_wp2_with fail
  refine (sGd_any HCC.out O_c0.out.rd O_c1.out.rd O_c2.out.rd (Nat.le_refl _) (by omega) HS1.out HB1.out (Nat.le_refl _) (by omega)).mono ?_
  rintro e w8 ⟨sv, lv, rfl, hoo, hbb⟩
  obtain ⟨⟨sa, sk, sc, e1s⟩, su, sy, sz, e2s⟩ := OutG.shape (hoo)
  subst e1s
  subst e2s
  have RS0 : Hid (OutG w8 c (.slice sa sk sc) (.slice su sy sz) (nl1 - 2) (gdL L1 nl1 G2 ng2 n3) (ng2 - 1) (gdG G2 ng2 n3)) := hoo
  clear hoo
  have zw8 : w7.heap.size ≤ w8.heap.size := hbb.size
  replace B_a0 : Hid (Blk w8 w.heap.size #[.int .i64 nodes0, .int .i64 slots0, .slice ao0 nf0 cp0] 24) := B_a0.out.old hbb
  replace O_c0 : Hid (OwB w4.heap.size w5.heap.size w8 gc0 nf0 F0) := O_c0.out.keep (keep_below hbb (by omega))
  replace O_c1 : Hid (OwLs w5.heap.size w6.heap.size w8 gc1 nl1 L1) := O_c1.out.keep (keep_below hbb (by omega))
  replace O_c2 : Hid (OwG w6.heap.size w7.heap.size w8 w6.heap.size ng2 G2) := O_c2.out.keep (keep_below hbb (by omega))
  replace D_w : Hid (Below w.heap.size w w8) := D_w.out.trans (hbb.mono (by omega))
  clear hbb
  clear O_c0
  clear O_c1
  clear O_c2
  have c_a0_0 := B_a0.out.cell (j := 0) rfl
  have c_a0_1 := B_a0.out.cell (j := 1) rfl
  have c_a0_2 := B_a0.out.cell (j := 2) rfl
  have l_a0 := B_a0.out.lt
  go_wp2_with fail
  obtain ⟨w9, hwd⟩ : ∃ W, W = w8.alloc (.cells #[.int .i64 c, .slice sa sk sc, .slice su sy sz] 33) := ⟨_, rfl⟩
  have NB : Hid (Blk w9 w8.heap.size #[.int .i64 c, .slice sa sk sc, .slice su sy sz] 33) := by rw [hwd]; exact Blk.new rfl
  have hbb : Below w8.heap.size w8 w9 := by rw [hwd]; exact (Below.refl _ _).alloc (Nat.le_refl _) _
  have yw9 : w8.heap.size + 1 ≤ w9.heap.size := by rw [hwd]; simp
  have HWD : Hid (w9 = w8.alloc (.cells #[.int .i64 c, .slice sa sk sc, .slice su sy sz] 33)) := hwd
  rw [← hwd]
  clear hwd
  clear c_a0_0 c_a0_1 c_a0_2 l_a0
  have zw9 : w8.heap.size ≤ w9.heap.size := hbb.size
  replace B_a0 : Hid (Blk w9 w.heap.size #[.int .i64 nodes0, .int .i64 slots0, .slice ao0 nf0 cp0] 24) := B_a0.out.old hbb
  replace D_w : Hid (Below w.heap.size w w9) := D_w.out.trans (hbb.mono (by omega))
  clear hbb
  have B_S := NB
  clear NB
  have RS : Hid (OutG w9 c (.slice sa sk sc) (.slice su sy sz) (nl1 - 2) (gdL L1 nl1 G2 ng2 n3) (ng2 - 1) (gdG G2 ng2 n3)) := RS0.out.later (show Below w8.heap.size w8 w9 from by rw [HWD.out]; exact (Below.refl _ _).alloc (Nat.le_refl _) _)
  clear RS0 HWD
  have D_w9 : Hid (Below w9.heap.size w9 w9) := Below.refl _ _
  refine (toNet_any (H0.out.later D_w.out) (by omega)).mono ?_
  rintro e w10 ⟨gx0, rfl, hmo, hbb⟩
  have zw10 : w9.heap.size ≤ w10.heap.size := hbb.size
  replace B_a0 : Hid (Blk w10 w.heap.size #[.int .i64 nodes0, .int .i64 slots0, .slice ao0 nf0 cp0] 24) := B_a0.out.old hbb
  replace B_S : Hid (Blk w10 w8.heap.size #[.int .i64 c, .slice sa sk sc, .slice su sy sz] 33) := B_S.out.old hbb
  replace D_w : Hid (Below w.heap.size w w10) := D_w.out.trans (hbb.mono (by omega))
  replace D_w9 : Hid (Below w9.heap.size w9 w10) := D_w9.out.trans (hbb.mono (by omega))
  clear hbb
  have O_x0 : Hid (OwB w9.heap.size w10.heap.size w10 gx0 nf0 F0) := hmo
  clear hmo
  go_wp2_with fail
  obtain ⟨w11, hwd⟩ : ∃ W, W = w10.alloc (.cells #[.int .i64 nodes0, .int .i64 slots0, .slice (some ⟨gx0, 0, none⟩) nf0 nf0] 37) := ⟨_, rfl⟩
  have NB : Hid (Blk w11 w10.heap.size #[.int .i64 nodes0, .int .i64 slots0, .slice (some ⟨gx0, 0, none⟩) nf0 nf0] 37) := by rw [hwd]; exact Blk.new rfl
  have hbb : Below w10.heap.size w10 w11 := by rw [hwd]; exact (Below.refl _ _).alloc (Nat.le_refl _) _
  have yw11 : w10.heap.size + 1 ≤ w11.heap.size := by rw [hwd]; simp
  rw [← hwd]
  clear hwd
  have zw11 : w10.heap.size ≤ w11.heap.size := hbb.size
  replace B_a0 : Hid (Blk w11 w.heap.size #[.int .i64 nodes0, .int .i64 slots0, .slice ao0 nf0 cp0] 24) := B_a0.out.old hbb
  replace B_S : Hid (Blk w11 w8.heap.size #[.int .i64 c, .slice sa sk sc, .slice su sy sz] 33) := B_S.out.old hbb
  replace O_x0 : Hid (OwB w9.heap.size w10.heap.size w11 gx0 nf0 F0) := O_x0.out.keep (keep_below hbb (by omega))
  replace D_w : Hid (Below w.heap.size w w11) := D_w.out.trans (hbb.mono (by omega))
  replace D_w9 : Hid (Below w9.heap.size w9 w11) := D_w9.out.trans (hbb.mono (by omega))
  clear hbb
  have B_x0 := NB
  clear NB
  refine (toLits_any (H1.out.later D_w.out) HS1.out).mono ?_
  rintro e w12 ⟨gx1, rfl, hmo, hbb⟩
  have zw12 : w11.heap.size ≤ w12.heap.size := hbb.size
  replace B_a0 : Hid (Blk w12 w.heap.size #[.int .i64 nodes0, .int .i64 slots0, .slice ao0 nf0 cp0] 24) := B_a0.out.old hbb
  replace B_S : Hid (Blk w12 w8.heap.size #[.int .i64 c, .slice sa sk sc, .slice su sy sz] 33) := B_S.out.old hbb
  replace B_x0 : Hid (Blk w12 w10.heap.size #[.int .i64 nodes0, .int .i64 slots0, .slice (some ⟨gx0, 0, none⟩) nf0 nf0] 37) := B_x0.out.old hbb
  replace O_x0 : Hid (OwB w9.heap.size w10.heap.size w12 gx0 nf0 F0) := O_x0.out.keep (keep_below hbb (by omega))
  replace D_w : Hid (Below w.heap.size w w12) := D_w.out.trans (hbb.mono (by omega))
  replace D_w9 : Hid (Below w9.heap.size w9 w12) := D_w9.out.trans (hbb.mono (by omega))
  clear hbb
  have O_x1 : Hid (OwLs w11.heap.size w12.heap.size w12 gx1 nl1 L1) := hmo
  clear hmo
  go_wp2_with fail
  refine (toG_any (H2.out.later D_w.out) (by omega)).mono ?_
  rintro e w13 ⟨rfl, hmo, hbb⟩
  have zw13 : w12.heap.size ≤ w13.heap.size := hbb.size
  replace B_a0 : Hid (Blk w13 w.heap.size #[.int .i64 nodes0, .int .i64 slots0, .slice ao0 nf0 cp0] 24) := B_a0.out.old hbb
  replace B_S : Hid (Blk w13 w8.heap.size #[.int .i64 c, .slice sa sk sc, .slice su sy sz] 33) := B_S.out.old hbb
  replace B_x0 : Hid (Blk w13 w10.heap.size #[.int .i64 nodes0, .int .i64 slots0, .slice (some ⟨gx0, 0, none⟩) nf0 nf0] 37) := B_x0.out.old hbb
  replace O_x0 : Hid (OwB w9.heap.size w10.heap.size w13 gx0 nf0 F0) := O_x0.out.keep (keep_below hbb (by omega))
  replace O_x1 : Hid (OwLs w11.heap.size w12.heap.size w13 gx1 nl1 L1) := O_x1.out.keep (keep_below hbb (by omega))
  replace D_w : Hid (Below w.heap.size w w13) := D_w.out.trans (hbb.mono (by omega))
  replace D_w9 : Hid (Below w9.heap.size w9 w13) := D_w9.out.trans (hbb.mono (by omega))
  clear hbb
  have O_x2 : Hid (OwG w12.heap.size w13.heap.size w13 w12.heap.size ng2 G2) := hmo
  clear hmo
  have c_x0_0 := B_x0.out.cell (j := 0) rfl
  have c_x0_1 := B_x0.out.cell (j := 1) rfl
  have c_x0_2 := B_x0.out.cell (j := 2) rfl
  have l_x0 := B_x0.out.lt
  go_wp2_with fail
  refine (iGd_any HCC.out O_x0.out.rd O_x1.out.rd O_x2.out.rd (Nat.le_refl _) (by omega) HS1.out HB1.out (Nat.le_refl _) (by omega)).mono ?_
  rintro e w14 ⟨gv, gl, rfl, hoo, hbb⟩
  clear c_x0_0 c_x0_1 c_x0_2 l_x0
  obtain ⟨⟨ga, gk, gc, e1g⟩, gu, gy, gz, e2g⟩ := OutG.shape (OwnG.rd hoo)
  subst e1g
  subst e2g
  have zw14 : w13.heap.size ≤ w14.heap.size := hbb.size
  replace B_a0 : Hid (Blk w14 w.heap.size #[.int .i64 nodes0, .int .i64 slots0, .slice ao0 nf0 cp0] 24) := B_a0.out.old hbb
  replace B_S : Hid (Blk w14 w8.heap.size #[.int .i64 c, .slice sa sk sc, .slice su sy sz] 33) := B_S.out.old hbb
  replace B_x0 : Hid (Blk w14 w10.heap.size #[.int .i64 nodes0, .int .i64 slots0, .slice (some ⟨gx0, 0, none⟩) nf0 nf0] 37) := B_x0.out.old hbb
  replace O_x0 : Hid (OwB w9.heap.size w10.heap.size w14 gx0 nf0 F0) := O_x0.out.keep (keep_below hbb (by omega))
  replace O_x1 : Hid (OwLs w11.heap.size w12.heap.size w14 gx1 nl1 L1) := O_x1.out.keep (keep_below hbb (by omega))
  replace O_x2 : Hid (OwG w12.heap.size w13.heap.size w14 w12.heap.size ng2 G2) := O_x2.out.keep (keep_below hbb (by omega))
  replace D_w : Hid (Below w.heap.size w w14) := D_w.out.trans (hbb.mono (by omega))
  replace D_w9 : Hid (Below w9.heap.size w9 w14) := D_w9.out.trans (hbb.mono (by omega))
  have O_g : Hid (OwnG w13.heap.size w14.heap.size w14 c (.slice ga gk gc) (.slice gu gy gz) (nl1 - 2) (gdL L1 nl1 G2 ng2 n3) (ng2 - 1) (gdG G2 ng2 n3)) := hoo
  clear hoo hbb
  have c_S_0 := B_S.out.cell (j := 0) rfl
  have c_S_1 := B_S.out.cell (j := 1) rfl
  have c_S_2 := B_S.out.cell (j := 2) rfl
  have l_S := B_S.out.lt
  go_wp2_with fail
  obtain ⟨w15, hwd⟩ : ∃ W, W = w14.alloc (.cells #[.int .i64 c, .slice ga gk gc, .slice gu gy gz] 33) := ⟨_, rfl⟩
  have NB : Hid (Blk w15 w14.heap.size #[.int .i64 c, .slice ga gk gc, .slice gu gy gz] 33) := by rw [hwd]; exact Blk.new rfl
  have hbb : Below w14.heap.size w14 w15 := by rw [hwd]; exact (Below.refl _ _).alloc (Nat.le_refl _) _
  have yw15 : w14.heap.size + 1 ≤ w15.heap.size := by rw [hwd]; simp
  rw [← hwd]
  clear hwd
  clear c_S_0 c_S_1 c_S_2 l_S
  have zw15 : w14.heap.size ≤ w15.heap.size := hbb.size
  replace B_a0 : Hid (Blk w15 w.heap.size #[.int .i64 nodes0, .int .i64 slots0, .slice ao0 nf0 cp0] 24) := B_a0.out.old hbb
  replace B_S : Hid (Blk w15 w8.heap.size #[.int .i64 c, .slice sa sk sc, .slice su sy sz] 33) := B_S.out.old hbb
  replace B_x0 : Hid (Blk w15 w10.heap.size #[.int .i64 nodes0, .int .i64 slots0, .slice (some ⟨gx0, 0, none⟩) nf0 nf0] 37) := B_x0.out.old hbb
  replace O_x0 : Hid (OwB w9.heap.size w10.heap.size w15 gx0 nf0 F0) := O_x0.out.keep (keep_below hbb (by omega))
  replace O_x1 : Hid (OwLs w11.heap.size w12.heap.size w15 gx1 nl1 L1) := O_x1.out.keep (keep_below hbb (by omega))
  replace O_x2 : Hid (OwG w12.heap.size w13.heap.size w15 w12.heap.size ng2 G2) := O_x2.out.keep (keep_below hbb (by omega))
  replace O_g : Hid (OwnG w13.heap.size w14.heap.size w15 c (.slice ga gk gc) (.slice gu gy gz) (nl1 - 2) (gdL L1 nl1 G2 ng2 n3) (ng2 - 1) (gdG G2 ng2 n3)) := O_g.out.keep (keep_below hbb (by omega))
  replace D_w : Hid (Below w.heap.size w w15) := D_w.out.trans (hbb.mono (by omega))
  replace D_w9 : Hid (Below w9.heap.size w9 w15) := D_w9.out.trans (hbb.mono (by omega))
  clear hbb
  have B_G := NB
  clear NB
  refine (eqOG_any O_g.out.rd (RS.out.later D_w9.out) HNM.out).mono ?_
  rintro e w16 ⟨rfl, hbb⟩
  have zw16 : w15.heap.size ≤ w16.heap.size := hbb.size
  replace B_a0 : Hid (Blk w16 w.heap.size #[.int .i64 nodes0, .int .i64 slots0, .slice ao0 nf0 cp0] 24) := B_a0.out.old hbb
  replace B_S : Hid (Blk w16 w8.heap.size #[.int .i64 c, .slice sa sk sc, .slice su sy sz] 33) := B_S.out.old hbb
  replace B_x0 : Hid (Blk w16 w10.heap.size #[.int .i64 nodes0, .int .i64 slots0, .slice (some ⟨gx0, 0, none⟩) nf0 nf0] 37) := B_x0.out.old hbb
  replace B_G : Hid (Blk w16 w14.heap.size #[.int .i64 c, .slice ga gk gc, .slice gu gy gz] 33) := B_G.out.old hbb
  replace O_x0 : Hid (OwB w9.heap.size w10.heap.size w16 gx0 nf0 F0) := O_x0.out.keep (keep_below hbb (by omega))
  replace O_x1 : Hid (OwLs w11.heap.size w12.heap.size w16 gx1 nl1 L1) := O_x1.out.keep (keep_below hbb (by omega))
  replace O_x2 : Hid (OwG w12.heap.size w13.heap.size w16 w12.heap.size ng2 G2) := O_x2.out.keep (keep_below hbb (by omega))
  replace O_g : Hid (OwnG w13.heap.size w14.heap.size w16 c (.slice ga gk gc) (.slice gu gy gz) (nl1 - 2) (gdL L1 nl1 G2 ng2 n3) (ng2 - 1) (gdG G2 ng2 n3)) := O_g.out.keep (keep_below hbb (by omega))
  replace D_w : Hid (Below w.heap.size w w16) := D_w.out.trans (hbb.mono (by omega))
  replace D_w9 : Hid (Below w9.heap.size w9 w16) := D_w9.out.trans (hbb.mono (by omega))
  clear hbb
  have q_x0_0 : ∀ W, Below w16.heap.size w16 W → W.cell? ⟨w10.heap.size, 0, none⟩ = some (.int .i64 nodes0) := fun W h => (B_x0.out.old h).cell (j := 0) rfl
  have q_x0_1 : ∀ W, Below w16.heap.size w16 W → W.cell? ⟨w10.heap.size, 1, none⟩ = some (.int .i64 slots0) := fun W h => (B_x0.out.old h).cell (j := 1) rfl
  have q_x0_2 : ∀ W, Below w16.heap.size w16 W → W.cell? ⟨w10.heap.size, 2, none⟩ = some (.slice (some ⟨gx0, 0, none⟩) nf0 nf0) := fun W h => (B_x0.out.old h).cell (j := 2) rfl
  have q_a0_0 : ∀ W, Below w16.heap.size w16 W → W.cell? ⟨w.heap.size, 0, none⟩ = some (.int .i64 nodes0) := fun W h => (B_a0.out.old h).cell (j := 0) rfl
  have q_a0_1 : ∀ W, Below w16.heap.size w16 W → W.cell? ⟨w.heap.size, 1, none⟩ = some (.int .i64 slots0) := fun W h => (B_a0.out.old h).cell (j := 1) rfl
  have q_a0_2 : ∀ W, Below w16.heap.size w16 W → W.cell? ⟨w.heap.size, 2, none⟩ = some (.slice ao0 nf0 cp0) := fun W h => (B_a0.out.old h).cell (j := 2) rfl
  have QA : ∀ W, Below w16.heap.size w16 W → Hid (Rf W (.slice ao0 nf0 cp0) nf0 F0) := fun W h => H0.out.later (D_w.out.trans (h.mono (by omega)))
  have QX : ∀ W, Below w16.heap.size w16 W → Hid (OwB w9.heap.size w10.heap.size W gx0 nf0 F0) := fun W h => O_x0.out.keep (keep_below h (by omega))
  go_wp2_with fail
  go_region_held (fun W => Below w16.heap.size w16 W) (go_grown)
    (first | (go_at_call 13; refine Calls.mono (toNet_any (QA _ (by go_grown)).out (by omega)) ?_; rintro e w17 ⟨gqa, rfl, hmo, hb1⟩; have hR1 : Below w16.heap.size w16 w17 := box_step (by go_grown) hb1 (Nat.le_refl _)) | (go_at_call 18; refine Calls.mono (eqNet_any (QX _ (by go_grown)).out hmo (by omega)) ?_; rintro e w18 ⟨rfl, hb2⟩; have hR2 : Below w16.heap.size w16 w18 := box_step hR1 hb2 (Nat.le_refl _)))
  have hbb : Below w16.heap.size w16 w18 := hR2
  clear hR1 hR2 hmo hb1 hb2 QA QX q_x0_0 q_x0_1 q_x0_2 q_a0_0 q_a0_1 q_a0_2
  have zw18 : w16.heap.size ≤ w18.heap.size := hbb.size
  replace B_a0 : Hid (Blk w18 w.heap.size #[.int .i64 nodes0, .int .i64 slots0, .slice ao0 nf0 cp0] 24) := B_a0.out.old hbb
  replace B_S : Hid (Blk w18 w8.heap.size #[.int .i64 c, .slice sa sk sc, .slice su sy sz] 33) := B_S.out.old hbb
  replace B_x0 : Hid (Blk w18 w10.heap.size #[.int .i64 nodes0, .int .i64 slots0, .slice (some ⟨gx0, 0, none⟩) nf0 nf0] 37) := B_x0.out.old hbb
  replace B_G : Hid (Blk w18 w14.heap.size #[.int .i64 c, .slice ga gk gc, .slice gu gy gz] 33) := B_G.out.old hbb
  replace O_x0 : Hid (OwB w9.heap.size w10.heap.size w18 gx0 nf0 F0) := O_x0.out.keep (keep_below hbb (by omega))
  replace O_x1 : Hid (OwLs w11.heap.size w12.heap.size w18 gx1 nl1 L1) := O_x1.out.keep (keep_below hbb (by omega))
  replace O_x2 : Hid (OwG w12.heap.size w13.heap.size w18 w12.heap.size ng2 G2) := O_x2.out.keep (keep_below hbb (by omega))
  replace O_g : Hid (OwnG w13.heap.size w14.heap.size w18 c (.slice ga gk gc) (.slice gu gy gz) (nl1 - 2) (gdL L1 nl1 G2 ng2 n3) (ng2 - 1) (gdG G2 ng2 n3)) := O_g.out.keep (keep_below hbb (by omega))
  replace D_w : Hid (Below w.heap.size w w18) := D_w.out.trans (hbb.mono (by omega))
  replace D_w9 : Hid (Below w9.heap.size w9 w18) := D_w9.out.trans (hbb.mono (by omega))
  clear hbb
  go_wp2_with fail
  refine (toLits_any (H1.out.later D_w.out) HS1.out).mono ?_
  rintro e w19 ⟨gq, rfl, hmo, hbb⟩
  have zw19 : w18.heap.size ≤ w19.heap.size := hbb.size
  replace B_a0 : Hid (Blk w19 w.heap.size #[.int .i64 nodes0, .int .i64 slots0, .slice ao0 nf0 cp0] 24) := B_a0.out.old hbb
  replace B_S : Hid (Blk w19 w8.heap.size #[.int .i64 c, .slice sa sk sc, .slice su sy sz] 33) := B_S.out.old hbb
  replace B_x0 : Hid (Blk w19 w10.heap.size #[.int .i64 nodes0, .int .i64 slots0, .slice (some ⟨gx0, 0, none⟩) nf0 nf0] 37) := B_x0.out.old hbb
  replace B_G : Hid (Blk w19 w14.heap.size #[.int .i64 c, .slice ga gk gc, .slice gu gy gz] 33) := B_G.out.old hbb
  replace O_x0 : Hid (OwB w9.heap.size w10.heap.size w19 gx0 nf0 F0) := O_x0.out.keep (keep_below hbb (by omega))
  replace O_x1 : Hid (OwLs w11.heap.size w12.heap.size w19 gx1 nl1 L1) := O_x1.out.keep (keep_below hbb (by omega))
  replace O_x2 : Hid (OwG w12.heap.size w13.heap.size w19 w12.heap.size ng2 G2) := O_x2.out.keep (keep_below hbb (by omega))
  replace O_g : Hid (OwnG w13.heap.size w14.heap.size w19 c (.slice ga gk gc) (.slice gu gy gz) (nl1 - 2) (gdL L1 nl1 G2 ng2 n3) (ng2 - 1) (gdG G2 ng2 n3)) := O_g.out.keep (keep_below hbb (by omega))
  replace D_w : Hid (Below w.heap.size w w19) := D_w.out.trans (hbb.mono (by omega))
  replace D_w9 : Hid (Below w9.heap.size w9 w19) := D_w9.out.trans (hbb.mono (by omega))
  clear hbb
  have O_q : Hid (OwLs w18.heap.size w19.heap.size w19 gq nl1 L1) := hmo
  clear hmo
  go_wp2_with fail
  refine (eqLits_any O_x1.out.rd O_q.out.rd HS1.out).mono ?_
  rintro e w20 ⟨rfl, hbb⟩
  clear O_q
  have zw20 : w19.heap.size ≤ w20.heap.size := hbb.size
  replace B_a0 : Hid (Blk w20 w.heap.size #[.int .i64 nodes0, .int .i64 slots0, .slice ao0 nf0 cp0] 24) := B_a0.out.old hbb
  replace B_S : Hid (Blk w20 w8.heap.size #[.int .i64 c, .slice sa sk sc, .slice su sy sz] 33) := B_S.out.old hbb
  replace B_x0 : Hid (Blk w20 w10.heap.size #[.int .i64 nodes0, .int .i64 slots0, .slice (some ⟨gx0, 0, none⟩) nf0 nf0] 37) := B_x0.out.old hbb
  replace B_G : Hid (Blk w20 w14.heap.size #[.int .i64 c, .slice ga gk gc, .slice gu gy gz] 33) := B_G.out.old hbb
  replace O_x0 : Hid (OwB w9.heap.size w10.heap.size w20 gx0 nf0 F0) := O_x0.out.keep (keep_below hbb (by omega))
  replace O_x1 : Hid (OwLs w11.heap.size w12.heap.size w20 gx1 nl1 L1) := O_x1.out.keep (keep_below hbb (by omega))
  replace O_x2 : Hid (OwG w12.heap.size w13.heap.size w20 w12.heap.size ng2 G2) := O_x2.out.keep (keep_below hbb (by omega))
  replace O_g : Hid (OwnG w13.heap.size w14.heap.size w20 c (.slice ga gk gc) (.slice gu gy gz) (nl1 - 2) (gdL L1 nl1 G2 ng2 n3) (ng2 - 1) (gdG G2 ng2 n3)) := O_g.out.keep (keep_below hbb (by omega))
  replace D_w : Hid (Below w.heap.size w w20) := D_w.out.trans (hbb.mono (by omega))
  replace D_w9 : Hid (Below w9.heap.size w9 w20) := D_w9.out.trans (hbb.mono (by omega))
  clear hbb
  go_wp2_with fail
  refine (toG_any (H2.out.later D_w.out) (by omega)).mono ?_
  rintro e w21 ⟨rfl, hmo, hbb⟩
  have zw21 : w20.heap.size ≤ w21.heap.size := hbb.size
  replace B_a0 : Hid (Blk w21 w.heap.size #[.int .i64 nodes0, .int .i64 slots0, .slice ao0 nf0 cp0] 24) := B_a0.out.old hbb
  replace B_S : Hid (Blk w21 w8.heap.size #[.int .i64 c, .slice sa sk sc, .slice su sy sz] 33) := B_S.out.old hbb
  replace B_x0 : Hid (Blk w21 w10.heap.size #[.int .i64 nodes0, .int .i64 slots0, .slice (some ⟨gx0, 0, none⟩) nf0 nf0] 37) := B_x0.out.old hbb
  replace B_G : Hid (Blk w21 w14.heap.size #[.int .i64 c, .slice ga gk gc, .slice gu gy gz] 33) := B_G.out.old hbb
  replace O_x0 : Hid (OwB w9.heap.size w10.heap.size w21 gx0 nf0 F0) := O_x0.out.keep (keep_below hbb (by omega))
  replace O_x1 : Hid (OwLs w11.heap.size w12.heap.size w21 gx1 nl1 L1) := O_x1.out.keep (keep_below hbb (by omega))
  replace O_x2 : Hid (OwG w12.heap.size w13.heap.size w21 w12.heap.size ng2 G2) := O_x2.out.keep (keep_below hbb (by omega))
  replace O_g : Hid (OwnG w13.heap.size w14.heap.size w21 c (.slice ga gk gc) (.slice gu gy gz) (nl1 - 2) (gdL L1 nl1 G2 ng2 n3) (ng2 - 1) (gdG G2 ng2 n3)) := O_g.out.keep (keep_below hbb (by omega))
  replace D_w : Hid (Below w.heap.size w w21) := D_w.out.trans (hbb.mono (by omega))
  replace D_w9 : Hid (Below w9.heap.size w9 w21) := D_w9.out.trans (hbb.mono (by omega))
  clear hbb
  have O_q : Hid (OwG w20.heap.size w21.heap.size w21 w20.heap.size ng2 G2) := hmo
  clear hmo
  go_wp2_with fail
  refine (eqG_any O_x2.out O_q.out (by omega)).mono ?_
  rintro e w22 ⟨rfl, hbb⟩
  clear O_q
  have zw22 : w21.heap.size ≤ w22.heap.size := hbb.size
  replace B_a0 : Hid (Blk w22 w.heap.size #[.int .i64 nodes0, .int .i64 slots0, .slice ao0 nf0 cp0] 24) := B_a0.out.old hbb
  replace B_S : Hid (Blk w22 w8.heap.size #[.int .i64 c, .slice sa sk sc, .slice su sy sz] 33) := B_S.out.old hbb
  replace B_x0 : Hid (Blk w22 w10.heap.size #[.int .i64 nodes0, .int .i64 slots0, .slice (some ⟨gx0, 0, none⟩) nf0 nf0] 37) := B_x0.out.old hbb
  replace B_G : Hid (Blk w22 w14.heap.size #[.int .i64 c, .slice ga gk gc, .slice gu gy gz] 33) := B_G.out.old hbb
  replace O_x0 : Hid (OwB w9.heap.size w10.heap.size w22 gx0 nf0 F0) := O_x0.out.keep (keep_below hbb (by omega))
  replace O_x1 : Hid (OwLs w11.heap.size w12.heap.size w22 gx1 nl1 L1) := O_x1.out.keep (keep_below hbb (by omega))
  replace O_x2 : Hid (OwG w12.heap.size w13.heap.size w22 w12.heap.size ng2 G2) := O_x2.out.keep (keep_below hbb (by omega))
  replace O_g : Hid (OwnG w13.heap.size w14.heap.size w22 c (.slice ga gk gc) (.slice gu gy gz) (nl1 - 2) (gdL L1 nl1 G2 ng2 n3) (ng2 - 1) (gdG G2 ng2 n3)) := O_g.out.keep (keep_below hbb (by omega))
  replace D_w : Hid (Below w.heap.size w w22) := D_w.out.trans (hbb.mono (by omega))
  replace D_w9 : Hid (Below w9.heap.size w9 w22) := D_w9.out.trans (hbb.mono (by omega))
  clear hbb
  have c_x0_0 := B_x0.out.cell (j := 0) rfl
  have c_x0_1 := B_x0.out.cell (j := 1) rfl
  have c_x0_2 := B_x0.out.cell (j := 2) rfl
  have l_x0 := B_x0.out.lt
  go_wp2_with fail
  refine (markNet_any 1 O_x0.out (by omega) (by omega) (by omega) (by omega)).mono ?_
  rintro e w23 ⟨rfl, hww⟩
  clear c_x0_0 c_x0_1 c_x0_2 l_x0
  have zw23 : w22.heap.size ≤ w23.heap.size := hww.below.size
  replace B_a0 : Hid (Blk w23 w.heap.size #[.int .i64 nodes0, .int .i64 slots0, .slice ao0 nf0 cp0] 24) := B_a0.out.within hww (by omega)
  replace B_S : Hid (Blk w23 w8.heap.size #[.int .i64 c, .slice sa sk sc, .slice su sy sz] 33) := B_S.out.within hww (by omega)
  replace B_x0 : Hid (Blk w23 w10.heap.size #[.int .i64 nodes0, .int .i64 slots0, .slice (some ⟨gx0, 0, none⟩) nf0 nf0] 37) := B_x0.out.within hww (by omega)
  replace B_G : Hid (Blk w23 w14.heap.size #[.int .i64 c, .slice ga gk gc, .slice gu gy gz] 33) := B_G.out.within hww (by omega)
  replace O_x1 : Hid (OwLs w11.heap.size w12.heap.size w23 gx1 nl1 L1) := O_x1.out.keep (keep_apart hww (by omega) (by omega))
  replace O_x2 : Hid (OwG w12.heap.size w13.heap.size w23 w12.heap.size ng2 G2) := O_x2.out.keep (keep_apart hww (by omega) (by omega))
  replace O_g : Hid (OwnG w13.heap.size w14.heap.size w23 c (.slice ga gk gc) (.slice gu gy gz) (nl1 - 2) (gdL L1 nl1 G2 ng2 n3) (ng2 - 1) (gdG G2 ng2 n3)) := O_g.out.keep (keep_apart hww (by omega) (by omega))
  replace D_w : Hid (Below w.heap.size w w23) := D_w.out.trans (hww.below.mono (by omega))
  replace D_w9 : Hid (Below w9.heap.size w9 w23) := D_w9.out.trans (hww.below.mono (by omega))
  clear hww O_x0
  obtain ⟨k1, hk⟩ : ∃ k : Int, k = mF 1 nf0 := ⟨_, rfl⟩
  have hk1a : 0 ≤ k1 := by rw [hk]; unfold mF; omega
  have hk1b : k1 ≤ 1 + 8000000 := by rw [hk]; unfold mF; omega
  rw [← hk]
  clear hk
  go_wp2_with fail
  refine (markLits_any k1 O_x1.out (by omega) (by omega) HS1.out).mono ?_
  rintro e w24 ⟨rfl, _, hww⟩
  have zw24 : w23.heap.size ≤ w24.heap.size := hww.below.size
  replace B_a0 : Hid (Blk w24 w.heap.size #[.int .i64 nodes0, .int .i64 slots0, .slice ao0 nf0 cp0] 24) := B_a0.out.within hww (by omega)
  replace B_S : Hid (Blk w24 w8.heap.size #[.int .i64 c, .slice sa sk sc, .slice su sy sz] 33) := B_S.out.within hww (by omega)
  replace B_x0 : Hid (Blk w24 w10.heap.size #[.int .i64 nodes0, .int .i64 slots0, .slice (some ⟨gx0, 0, none⟩) nf0 nf0] 37) := B_x0.out.within hww (by omega)
  replace B_G : Hid (Blk w24 w14.heap.size #[.int .i64 c, .slice ga gk gc, .slice gu gy gz] 33) := B_G.out.within hww (by omega)
  replace O_x2 : Hid (OwG w12.heap.size w13.heap.size w24 w12.heap.size ng2 G2) := O_x2.out.keep (keep_apart hww (by omega) (by omega))
  replace O_g : Hid (OwnG w13.heap.size w14.heap.size w24 c (.slice ga gk gc) (.slice gu gy gz) (nl1 - 2) (gdL L1 nl1 G2 ng2 n3) (ng2 - 1) (gdG G2 ng2 n3)) := O_g.out.keep (keep_apart hww (by omega) (by omega))
  replace D_w : Hid (Below w.heap.size w w24) := D_w.out.trans (hww.below.mono (by omega))
  replace D_w9 : Hid (Below w9.heap.size w9 w24) := D_w9.out.trans (hww.below.mono (by omega))
  clear hww O_x1
  obtain ⟨k2, hk⟩ : ∃ k : Int, k = mLs k1 L1 nl1 := ⟨_, rfl⟩
  have hk2a : 0 ≤ k2 := by rw [hk]; have := mLs_lo k1 L1 nl1; have := mLs_hi k1 HS1.out; omega
  have hk2b : k2 ≤ k1 + 8000000 := by rw [hk]; have := mLs_lo k1 L1 nl1; have := mLs_hi k1 HS1.out; omega
  rw [← hk]
  clear hk
  go_wp2_with fail
  refine (markG_any k2 O_x2.out (by omega) (by omega) (by omega)).mono ?_
  rintro e w25 ⟨rfl, _, hww⟩
  have zw25 : w24.heap.size ≤ w25.heap.size := hww.below.size
  replace B_a0 : Hid (Blk w25 w.heap.size #[.int .i64 nodes0, .int .i64 slots0, .slice ao0 nf0 cp0] 24) := B_a0.out.within hww (by omega)
  replace B_S : Hid (Blk w25 w8.heap.size #[.int .i64 c, .slice sa sk sc, .slice su sy sz] 33) := B_S.out.within hww (by omega)
  replace B_x0 : Hid (Blk w25 w10.heap.size #[.int .i64 nodes0, .int .i64 slots0, .slice (some ⟨gx0, 0, none⟩) nf0 nf0] 37) := B_x0.out.within hww (by omega)
  replace B_G : Hid (Blk w25 w14.heap.size #[.int .i64 c, .slice ga gk gc, .slice gu gy gz] 33) := B_G.out.within hww (by omega)
  replace O_g : Hid (OwnG w13.heap.size w14.heap.size w25 c (.slice ga gk gc) (.slice gu gy gz) (nl1 - 2) (gdL L1 nl1 G2 ng2 n3) (ng2 - 1) (gdG G2 ng2 n3)) := O_g.out.keep (keep_apart hww (by omega) (by omega))
  replace D_w : Hid (Below w.heap.size w w25) := D_w.out.trans (hww.below.mono (by omega))
  replace D_w9 : Hid (Below w9.heap.size w9 w25) := D_w9.out.trans (hww.below.mono (by omega))
  clear hww O_x2
  obtain ⟨k3, hk⟩ : ∃ k : Int, k = mG k2 ng2 := ⟨_, rfl⟩
  have hk3a : 0 ≤ k3 := by rw [hk]; unfold mG; omega
  have hk3b : k3 ≤ k2 + 8000000 := by rw [hk]; unfold mG; omega
  rw [← hk]
  clear hk
  have c_G_0 := B_G.out.cell (j := 0) rfl
  have c_G_1 := B_G.out.cell (j := 1) rfl
  have c_G_2 := B_G.out.cell (j := 2) rfl
  have l_G := B_G.out.lt
  have c_S_0 := B_S.out.cell (j := 0) rfl
  have c_S_1 := B_S.out.cell (j := 1) rfl
  have c_S_2 := B_S.out.cell (j := 2) rfl
  have l_S := B_S.out.lt
  go_wp2_with fail
  refine (eqOG_any O_g.out.rd (RS.out.later D_w9.out) HNM.out).mono ?_
  rintro e w26 ⟨rfl, hbb⟩
  clear c_G_0 c_G_1 c_G_2 l_G c_S_0 c_S_1 c_S_2 l_S
  have zw26 : w25.heap.size ≤ w26.heap.size := hbb.size
  replace B_a0 : Hid (Blk w26 w.heap.size #[.int .i64 nodes0, .int .i64 slots0, .slice ao0 nf0 cp0] 24) := B_a0.out.old hbb
  replace B_S : Hid (Blk w26 w8.heap.size #[.int .i64 c, .slice sa sk sc, .slice su sy sz] 33) := B_S.out.old hbb
  replace B_x0 : Hid (Blk w26 w10.heap.size #[.int .i64 nodes0, .int .i64 slots0, .slice (some ⟨gx0, 0, none⟩) nf0 nf0] 37) := B_x0.out.old hbb
  replace B_G : Hid (Blk w26 w14.heap.size #[.int .i64 c, .slice ga gk gc, .slice gu gy gz] 33) := B_G.out.old hbb
  replace O_g : Hid (OwnG w13.heap.size w14.heap.size w26 c (.slice ga gk gc) (.slice gu gy gz) (nl1 - 2) (gdL L1 nl1 G2 ng2 n3) (ng2 - 1) (gdG G2 ng2 n3)) := O_g.out.keep (keep_below hbb (by omega))
  replace D_w : Hid (Below w.heap.size w w26) := D_w.out.trans (hbb.mono (by omega))
  replace D_w9 : Hid (Below w9.heap.size w9 w26) := D_w9.out.trans (hbb.mono (by omega))
  clear hbb
  have c_G_0 := B_G.out.cell (j := 0) rfl
  have c_G_1 := B_G.out.cell (j := 1) rfl
  have c_G_2 := B_G.out.cell (j := 2) rfl
  have l_G := B_G.out.lt
  go_wp2_with fail
  refine (markOG_any O_g.out HNM.out (by omega) (by omega)).mono ?_
  rintro e w27 ⟨r, rfl, hmk, hww⟩
  clear c_G_0 c_G_1 c_G_2 l_G
  have hr0 : 0 ≤ r := hmk.pos
  have zw27 : w26.heap.size ≤ w27.heap.size := hww.below.size
  replace B_a0 : Hid (Blk w27 w.heap.size #[.int .i64 nodes0, .int .i64 slots0, .slice ao0 nf0 cp0] 24) := B_a0.out.within hww (by omega)
  replace B_S : Hid (Blk w27 w8.heap.size #[.int .i64 c, .slice sa sk sc, .slice su sy sz] 33) := B_S.out.within hww (by omega)
  replace B_x0 : Hid (Blk w27 w10.heap.size #[.int .i64 nodes0, .int .i64 slots0, .slice (some ⟨gx0, 0, none⟩) nf0 nf0] 37) := B_x0.out.within hww (by omega)
  replace B_G : Hid (Blk w27 w14.heap.size #[.int .i64 c, .slice ga gk gc, .slice gu gy gz] 33) := B_G.out.within hww (by omega)
  replace D_w : Hid (Below w.heap.size w w27) := D_w.out.trans (hww.below.mono (by omega))
  replace D_w9 : Hid (Below w9.heap.size w9 w27) := D_w9.out.trans (hww.below.mono (by omega))
  replace O_g : Hid (MkdG w13.heap.size w14.heap.size w27 c (.slice ga gk gc) (.slice gu gy gz) (nl1 - 2) (gdL L1 nl1 G2 ng2 n3) (ng2 - 1) r) := hmk
  clear hmk hww
  have c_G_0 := B_G.out.cell (j := 0) rfl
  have c_G_1 := B_G.out.cell (j := 1) rfl
  have c_G_2 := B_G.out.cell (j := 2) rfl
  have l_G := B_G.out.lt
  go_wp2_with fail
  refine (heldOG_any O_g.out HNM.out (by omega)).mono ?_
  rintro e w28 ⟨rfl, hbb⟩
  clear c_G_0 c_G_1 c_G_2 l_G
  have zw28 : w27.heap.size ≤ w28.heap.size := hbb.size
  replace B_a0 : Hid (Blk w28 w.heap.size #[.int .i64 nodes0, .int .i64 slots0, .slice ao0 nf0 cp0] 24) := B_a0.out.old hbb
  replace B_S : Hid (Blk w28 w8.heap.size #[.int .i64 c, .slice sa sk sc, .slice su sy sz] 33) := B_S.out.old hbb
  replace B_x0 : Hid (Blk w28 w10.heap.size #[.int .i64 nodes0, .int .i64 slots0, .slice (some ⟨gx0, 0, none⟩) nf0 nf0] 37) := B_x0.out.old hbb
  replace B_G : Hid (Blk w28 w14.heap.size #[.int .i64 c, .slice ga gk gc, .slice gu gy gz] 33) := B_G.out.old hbb
  replace O_g : Hid (MkdG w13.heap.size w14.heap.size w28 c (.slice ga gk gc) (.slice gu gy gz) (nl1 - 2) (gdL L1 nl1 G2 ng2 n3) (ng2 - 1) r) := O_g.out.keep (keep_below hbb (by omega))
  replace D_w : Hid (Below w.heap.size w w28) := D_w.out.trans (hbb.mono (by omega))
  replace D_w9 : Hid (Below w9.heap.size w9 w28) := D_w9.out.trans (hbb.mono (by omega))
  clear hbb
  have c_a0_0 := B_a0.out.cell (j := 0) rfl
  have c_a0_1 := B_a0.out.cell (j := 1) rfl
  have c_a0_2 := B_a0.out.cell (j := 2) rfl
  have l_a0 := B_a0.out.lt
  go_wp2_with fail
  refine (toNet_any (H0.out.later D_w.out) (by omega)).mono ?_
  rintro e w29 ⟨gh0, rfl, hmo, hbb⟩
  clear c_a0_0 c_a0_1 c_a0_2 l_a0
  have zw29 : w28.heap.size ≤ w29.heap.size := hbb.size
  replace B_a0 : Hid (Blk w29 w.heap.size #[.int .i64 nodes0, .int .i64 slots0, .slice ao0 nf0 cp0] 24) := B_a0.out.old hbb
  replace B_S : Hid (Blk w29 w8.heap.size #[.int .i64 c, .slice sa sk sc, .slice su sy sz] 33) := B_S.out.old hbb
  replace B_x0 : Hid (Blk w29 w10.heap.size #[.int .i64 nodes0, .int .i64 slots0, .slice (some ⟨gx0, 0, none⟩) nf0 nf0] 37) := B_x0.out.old hbb
  replace B_G : Hid (Blk w29 w14.heap.size #[.int .i64 c, .slice ga gk gc, .slice gu gy gz] 33) := B_G.out.old hbb
  replace O_g : Hid (MkdG w13.heap.size w14.heap.size w29 c (.slice ga gk gc) (.slice gu gy gz) (nl1 - 2) (gdL L1 nl1 G2 ng2 n3) (ng2 - 1) r) := O_g.out.keep (keep_below hbb (by omega))
  replace D_w : Hid (Below w.heap.size w w29) := D_w.out.trans (hbb.mono (by omega))
  replace D_w9 : Hid (Below w9.heap.size w9 w29) := D_w9.out.trans (hbb.mono (by omega))
  clear hbb
  have O_h0 : Hid (OwB w28.heap.size w29.heap.size w29 gh0 nf0 F0) := hmo
  clear hmo
  go_wp2_with fail
  refine (toLits_any (H1.out.later D_w.out) HS1.out).mono ?_
  rintro e w30 ⟨gh1, rfl, hmo, hbb⟩
  have zw30 : w29.heap.size ≤ w30.heap.size := hbb.size
  replace B_a0 : Hid (Blk w30 w.heap.size #[.int .i64 nodes0, .int .i64 slots0, .slice ao0 nf0 cp0] 24) := B_a0.out.old hbb
  replace B_S : Hid (Blk w30 w8.heap.size #[.int .i64 c, .slice sa sk sc, .slice su sy sz] 33) := B_S.out.old hbb
  replace B_x0 : Hid (Blk w30 w10.heap.size #[.int .i64 nodes0, .int .i64 slots0, .slice (some ⟨gx0, 0, none⟩) nf0 nf0] 37) := B_x0.out.old hbb
  replace B_G : Hid (Blk w30 w14.heap.size #[.int .i64 c, .slice ga gk gc, .slice gu gy gz] 33) := B_G.out.old hbb
  replace O_g : Hid (MkdG w13.heap.size w14.heap.size w30 c (.slice ga gk gc) (.slice gu gy gz) (nl1 - 2) (gdL L1 nl1 G2 ng2 n3) (ng2 - 1) r) := O_g.out.keep (keep_below hbb (by omega))
  replace O_h0 : Hid (OwB w28.heap.size w29.heap.size w30 gh0 nf0 F0) := O_h0.out.keep (keep_below hbb (by omega))
  replace D_w : Hid (Below w.heap.size w w30) := D_w.out.trans (hbb.mono (by omega))
  replace D_w9 : Hid (Below w9.heap.size w9 w30) := D_w9.out.trans (hbb.mono (by omega))
  clear hbb
  have O_h1 : Hid (OwLs w29.heap.size w30.heap.size w30 gh1 nl1 L1) := hmo
  clear hmo
  go_wp2_with fail
  refine (toG_any (H2.out.later D_w.out) (by omega)).mono ?_
  rintro e w31 ⟨rfl, hmo, hbb⟩
  have zw31 : w30.heap.size ≤ w31.heap.size := hbb.size
  replace B_a0 : Hid (Blk w31 w.heap.size #[.int .i64 nodes0, .int .i64 slots0, .slice ao0 nf0 cp0] 24) := B_a0.out.old hbb
  replace B_S : Hid (Blk w31 w8.heap.size #[.int .i64 c, .slice sa sk sc, .slice su sy sz] 33) := B_S.out.old hbb
  replace B_x0 : Hid (Blk w31 w10.heap.size #[.int .i64 nodes0, .int .i64 slots0, .slice (some ⟨gx0, 0, none⟩) nf0 nf0] 37) := B_x0.out.old hbb
  replace B_G : Hid (Blk w31 w14.heap.size #[.int .i64 c, .slice ga gk gc, .slice gu gy gz] 33) := B_G.out.old hbb
  replace O_g : Hid (MkdG w13.heap.size w14.heap.size w31 c (.slice ga gk gc) (.slice gu gy gz) (nl1 - 2) (gdL L1 nl1 G2 ng2 n3) (ng2 - 1) r) := O_g.out.keep (keep_below hbb (by omega))
  replace O_h0 : Hid (OwB w28.heap.size w29.heap.size w31 gh0 nf0 F0) := O_h0.out.keep (keep_below hbb (by omega))
  replace O_h1 : Hid (OwLs w29.heap.size w30.heap.size w31 gh1 nl1 L1) := O_h1.out.keep (keep_below hbb (by omega))
  replace D_w : Hid (Below w.heap.size w w31) := D_w.out.trans (hbb.mono (by omega))
  replace D_w9 : Hid (Below w9.heap.size w9 w31) := D_w9.out.trans (hbb.mono (by omega))
  clear hbb
  have O_h2 : Hid (OwG w30.heap.size w31.heap.size w31 w30.heap.size ng2 G2) := hmo
  clear hmo
  go_wp2_with fail
  refine (iGd_any HCC.out O_h0.out.rd O_h1.out.rd O_h2.out.rd (Nat.le_refl _) (by omega) HS1.out HB1.out (Nat.le_refl _) (by omega)).mono ?_
  rintro e w32 ⟨hv, hl, rfl, hoo, hbb⟩
  obtain ⟨⟨ha, hk, hc, e1h⟩, hu, hy, hz, e2h⟩ := OutG.shape (OwnG.rd hoo)
  subst e1h
  subst e2h
  have zw32 : w31.heap.size ≤ w32.heap.size := hbb.size
  replace B_a0 : Hid (Blk w32 w.heap.size #[.int .i64 nodes0, .int .i64 slots0, .slice ao0 nf0 cp0] 24) := B_a0.out.old hbb
  replace B_S : Hid (Blk w32 w8.heap.size #[.int .i64 c, .slice sa sk sc, .slice su sy sz] 33) := B_S.out.old hbb
  replace B_x0 : Hid (Blk w32 w10.heap.size #[.int .i64 nodes0, .int .i64 slots0, .slice (some ⟨gx0, 0, none⟩) nf0 nf0] 37) := B_x0.out.old hbb
  replace B_G : Hid (Blk w32 w14.heap.size #[.int .i64 c, .slice ga gk gc, .slice gu gy gz] 33) := B_G.out.old hbb
  replace O_g : Hid (MkdG w13.heap.size w14.heap.size w32 c (.slice ga gk gc) (.slice gu gy gz) (nl1 - 2) (gdL L1 nl1 G2 ng2 n3) (ng2 - 1) r) := O_g.out.keep (keep_below hbb (by omega))
  replace O_h0 : Hid (OwB w28.heap.size w29.heap.size w32 gh0 nf0 F0) := O_h0.out.keep (keep_below hbb (by omega))
  replace O_h1 : Hid (OwLs w29.heap.size w30.heap.size w32 gh1 nl1 L1) := O_h1.out.keep (keep_below hbb (by omega))
  replace O_h2 : Hid (OwG w30.heap.size w31.heap.size w32 w30.heap.size ng2 G2) := O_h2.out.keep (keep_below hbb (by omega))
  replace D_w : Hid (Below w.heap.size w w32) := D_w.out.trans (hbb.mono (by omega))
  replace D_w9 : Hid (Below w9.heap.size w9 w32) := D_w9.out.trans (hbb.mono (by omega))
  have O_h : Hid (OwnG w31.heap.size w32.heap.size w32 c (.slice ha hk hc) (.slice hu hy hz) (nl1 - 2) (gdL L1 nl1 G2 ng2 n3) (ng2 - 1) (gdG G2 ng2 n3)) := hoo
  clear hoo hbb
  have c_S_0 := B_S.out.cell (j := 0) rfl
  have c_S_1 := B_S.out.cell (j := 1) rfl
  have c_S_2 := B_S.out.cell (j := 2) rfl
  have l_S := B_S.out.lt
  go_wp2_with fail
  obtain ⟨w33, hwd⟩ : ∃ W, W = w32.alloc (.cells #[.int .i64 c, .slice ha hk hc, .slice hu hy hz] 33) := ⟨_, rfl⟩
  have NB : Hid (Blk w33 w32.heap.size #[.int .i64 c, .slice ha hk hc, .slice hu hy hz] 33) := by rw [hwd]; exact Blk.new rfl
  have hbb : Below w32.heap.size w32 w33 := by rw [hwd]; exact (Below.refl _ _).alloc (Nat.le_refl _) _
  have yw33 : w32.heap.size + 1 ≤ w33.heap.size := by rw [hwd]; simp
  rw [← hwd]
  clear hwd
  clear c_S_0 c_S_1 c_S_2 l_S
  have zw33 : w32.heap.size ≤ w33.heap.size := hbb.size
  replace B_a0 : Hid (Blk w33 w.heap.size #[.int .i64 nodes0, .int .i64 slots0, .slice ao0 nf0 cp0] 24) := B_a0.out.old hbb
  replace B_S : Hid (Blk w33 w8.heap.size #[.int .i64 c, .slice sa sk sc, .slice su sy sz] 33) := B_S.out.old hbb
  replace B_x0 : Hid (Blk w33 w10.heap.size #[.int .i64 nodes0, .int .i64 slots0, .slice (some ⟨gx0, 0, none⟩) nf0 nf0] 37) := B_x0.out.old hbb
  replace B_G : Hid (Blk w33 w14.heap.size #[.int .i64 c, .slice ga gk gc, .slice gu gy gz] 33) := B_G.out.old hbb
  replace O_g : Hid (MkdG w13.heap.size w14.heap.size w33 c (.slice ga gk gc) (.slice gu gy gz) (nl1 - 2) (gdL L1 nl1 G2 ng2 n3) (ng2 - 1) r) := O_g.out.keep (keep_below hbb (by omega))
  replace O_h0 : Hid (OwB w28.heap.size w29.heap.size w33 gh0 nf0 F0) := O_h0.out.keep (keep_below hbb (by omega))
  replace O_h1 : Hid (OwLs w29.heap.size w30.heap.size w33 gh1 nl1 L1) := O_h1.out.keep (keep_below hbb (by omega))
  replace O_h2 : Hid (OwG w30.heap.size w31.heap.size w33 w30.heap.size ng2 G2) := O_h2.out.keep (keep_below hbb (by omega))
  replace O_h : Hid (OwnG w31.heap.size w32.heap.size w33 c (.slice ha hk hc) (.slice hu hy hz) (nl1 - 2) (gdL L1 nl1 G2 ng2 n3) (ng2 - 1) (gdG G2 ng2 n3)) := O_h.out.keep (keep_below hbb (by omega))
  replace D_w : Hid (Below w.heap.size w w33) := D_w.out.trans (hbb.mono (by omega))
  replace D_w9 : Hid (Below w9.heap.size w9 w33) := D_w9.out.trans (hbb.mono (by omega))
  clear hbb
  have B_H := NB
  clear NB
  refine (eqOG_any O_h.out.rd (RS.out.later D_w9.out) HNM.out).mono ?_
  rintro e w34 ⟨rfl, hbb⟩
  have zw34 : w33.heap.size ≤ w34.heap.size := hbb.size
  replace B_a0 : Hid (Blk w34 w.heap.size #[.int .i64 nodes0, .int .i64 slots0, .slice ao0 nf0 cp0] 24) := B_a0.out.old hbb
  replace B_S : Hid (Blk w34 w8.heap.size #[.int .i64 c, .slice sa sk sc, .slice su sy sz] 33) := B_S.out.old hbb
  replace B_x0 : Hid (Blk w34 w10.heap.size #[.int .i64 nodes0, .int .i64 slots0, .slice (some ⟨gx0, 0, none⟩) nf0 nf0] 37) := B_x0.out.old hbb
  replace B_G : Hid (Blk w34 w14.heap.size #[.int .i64 c, .slice ga gk gc, .slice gu gy gz] 33) := B_G.out.old hbb
  replace B_H : Hid (Blk w34 w32.heap.size #[.int .i64 c, .slice ha hk hc, .slice hu hy hz] 33) := B_H.out.old hbb
  replace O_g : Hid (MkdG w13.heap.size w14.heap.size w34 c (.slice ga gk gc) (.slice gu gy gz) (nl1 - 2) (gdL L1 nl1 G2 ng2 n3) (ng2 - 1) r) := O_g.out.keep (keep_below hbb (by omega))
  replace O_h0 : Hid (OwB w28.heap.size w29.heap.size w34 gh0 nf0 F0) := O_h0.out.keep (keep_below hbb (by omega))
  replace O_h1 : Hid (OwLs w29.heap.size w30.heap.size w34 gh1 nl1 L1) := O_h1.out.keep (keep_below hbb (by omega))
  replace O_h2 : Hid (OwG w30.heap.size w31.heap.size w34 w30.heap.size ng2 G2) := O_h2.out.keep (keep_below hbb (by omega))
  replace O_h : Hid (OwnG w31.heap.size w32.heap.size w34 c (.slice ha hk hc) (.slice hu hy hz) (nl1 - 2) (gdL L1 nl1 G2 ng2 n3) (ng2 - 1) (gdG G2 ng2 n3)) := O_h.out.keep (keep_below hbb (by omega))
  replace D_w : Hid (Below w.heap.size w w34) := D_w.out.trans (hbb.mono (by omega))
  replace D_w9 : Hid (Below w9.heap.size w9 w34) := D_w9.out.trans (hbb.mono (by omega))
  clear hbb
  have c_G_0 := B_G.out.cell (j := 0) rfl
  have c_G_1 := B_G.out.cell (j := 1) rfl
  have c_G_2 := B_G.out.cell (j := 2) rfl
  have l_G := B_G.out.lt
  go_wp2_with fail
  refine (heldOG_any O_g.out HNM.out (by omega)).mono ?_
  rintro e w35 ⟨rfl, hbb⟩
  clear c_G_0 c_G_1 c_G_2 l_G
  have zw35 : w34.heap.size ≤ w35.heap.size := hbb.size
  replace B_a0 : Hid (Blk w35 w.heap.size #[.int .i64 nodes0, .int .i64 slots0, .slice ao0 nf0 cp0] 24) := B_a0.out.old hbb
  replace B_S : Hid (Blk w35 w8.heap.size #[.int .i64 c, .slice sa sk sc, .slice su sy sz] 33) := B_S.out.old hbb
  replace B_x0 : Hid (Blk w35 w10.heap.size #[.int .i64 nodes0, .int .i64 slots0, .slice (some ⟨gx0, 0, none⟩) nf0 nf0] 37) := B_x0.out.old hbb
  replace B_G : Hid (Blk w35 w14.heap.size #[.int .i64 c, .slice ga gk gc, .slice gu gy gz] 33) := B_G.out.old hbb
  replace B_H : Hid (Blk w35 w32.heap.size #[.int .i64 c, .slice ha hk hc, .slice hu hy hz] 33) := B_H.out.old hbb
  replace O_g : Hid (MkdG w13.heap.size w14.heap.size w35 c (.slice ga gk gc) (.slice gu gy gz) (nl1 - 2) (gdL L1 nl1 G2 ng2 n3) (ng2 - 1) r) := O_g.out.keep (keep_below hbb (by omega))
  replace O_h0 : Hid (OwB w28.heap.size w29.heap.size w35 gh0 nf0 F0) := O_h0.out.keep (keep_below hbb (by omega))
  replace O_h1 : Hid (OwLs w29.heap.size w30.heap.size w35 gh1 nl1 L1) := O_h1.out.keep (keep_below hbb (by omega))
  replace O_h2 : Hid (OwG w30.heap.size w31.heap.size w35 w30.heap.size ng2 G2) := O_h2.out.keep (keep_below hbb (by omega))
  replace O_h : Hid (OwnG w31.heap.size w32.heap.size w35 c (.slice ha hk hc) (.slice hu hy hz) (nl1 - 2) (gdL L1 nl1 G2 ng2 n3) (ng2 - 1) (gdG G2 ng2 n3)) := O_h.out.keep (keep_below hbb (by omega))
  replace D_w : Hid (Below w.heap.size w w35) := D_w.out.trans (hbb.mono (by omega))
  replace D_w9 : Hid (Below w9.heap.size w9 w35) := D_w9.out.trans (hbb.mono (by omega))
  clear hbb
  go_wp2
  go_ret
  exact ⟨rfl, D_w.out⟩

set_option maxRecDepth 100000 in
theorem lifted (os : Os) (started : os.Started) (H : Type) (enc : TypeId × Value → H) :
    ReturnsInHanded {} Try.checked os 3 .any (Rows.fnExactGuardDownSpec.pre6 enc Try.prog Try.f3 Rows.fnExactGuardDownRow.domain false) (Rows.fnExactGuardDownSpec.post enc Try.prog Try.f3 false true false false) := by
  refine returnsInHanded_of_change (C := Try.checked) own started (by kernel_rfl) Try.func3
    (ChangeSpec.witness6 (enc := enc) (C := Try.checked) false ⟨#[], #[.agg #[.int .i64 0, .int .i64 0, .slice none 0 0], .slice none 0 0, .slice none 0 0, .int .i64 0], []⟩ 8 (by kernel_rfl) (by kernel_rfl) (by kernel_rfl) (by kernel_rfl)) ?_
  intro W base args ds gs before hval0 hW hcnd _
  have hval : ∀ (j : Nat) t v, Try.f3.params[j]? = some t → args[j]? = some v → Value.okWide Try.prog W .any base t v := hval0
  have hW' := hW
  obtain ⟨p, q, hA0, hV, rfl, hfz, hnd⟩ := hW
  have hA : DataW.TrodAll enc Try.prog W 0 (fun _ => true) true Try.f3.params.toList args.toList ds p := hA0
  rw [Try.params3] at hA hval
  obtain ⟨v0, vs0, d0, ds0, p0, q0, hargs, rfl, rfl, h0, r0⟩ := trodAll_cons hA
  obtain ⟨v1, vs1, d1, ds1, p1, q1, rfl, rfl, rfl, h1, r1⟩ := trodAll_cons r0
  obtain ⟨v2, vs2, d2, ds2, p2, q2, rfl, rfl, rfl, h2, r2⟩ := trodAll_cons r1
  obtain ⟨v3, vs3, d3, ds3, p3, q3, rfl, rfl, rfl, h3, r3⟩ := trodAll_cons r2
  obtain ⟨rfl, rfl, rfl⟩ := trodAll_nil r3
  obtain rfl : args = #[v0, v1, v2, v3] := by cases args; simp_all
  obtain ⟨rfl, rfl⟩ := trodVars_none hV
  have k0 := h0
  have lt0 : ∀ x ∈ p0, x.block < W.heap.size := by obtain ⟨m, hm⟩ := k0; exact DataW.trod_lt m _ _ _ hm
  obtain ⟨nodes0, slots0, ao0, nf0, cp0, F0, rfl, R0, nb0, wl00, wl10, wl20, wl30⟩ := open_net (hval 0 24 v0 rfl rfl) h0
  have k1 := h1
  have lt1 : ∀ x ∈ p1, x.block < W.heap.size := by obtain ⟨m, hm⟩ := k1; exact DataW.trod_lt m _ _ _ hm
  obtain ⟨nl1, L1, R1, nb1, lb1⟩ := open_lits (hval 1 25 v1 rfl rfl) h1
  have k2 := h2
  have lt2 : ∀ x ∈ p2, x.block < W.heap.size := by obtain ⟨m, hm⟩ := k2; exact DataW.trod_lt m _ _ _ hm
  obtain ⟨ng2, G2, R2, nb2⟩ := open_guards (hval 2 26 v2 rfl rfl) h2
  have k3 := h3
  have lt3 : ∀ x ∈ p3, x.block < W.heap.size := by obtain ⟨m, hm⟩ := k3; exact DataW.trod_lt m _ _ _ hm
  obtain ⟨n3, rfl, _, _, w3⟩ := open_int Try.underlying2 (hval 3 2 v3 rfl rfl) h3
  clear hA0 hval0
  refine (walk R0 nb0 wl00 wl10 wl20 wl30 R1 nb1 lb1 R2 nb2 n3 (i64_lo w3) (i64_hi w3)).mono fun e W' ⟨he, bel⟩ => ?_
  subst he
  exact ⟨_, rfl, _, _, _, [], _, [], hW', trodAll_mk1 (shut_bool Try.underlying4 _), (trodAll_cons_mk (Below.trod laidOut (by kernel_rfl) (of_decide_eq_true (by kernel_rfl)) k0 bel lt0) (trodAll_cons_mk (Below.trod laidOut (by kernel_rfl) (of_decide_eq_true (by kernel_rfl)) k1 bel lt1) (trodAll_cons_mk (Below.trod laidOut (by kernel_rfl) (of_decide_eq_true (by kernel_rfl)) k2 bel lt2) (trodAll_cons_mk (Below.trod laidOut (by kernel_rfl) (of_decide_eq_true (by kernel_rfl)) k3 bel lt3) trodAll_mk0)))), rfl, bel.frame _, fun h => by cases h⟩

theorem over : Rows.fnExactGuardDownRow.holds Try.pinned (OpenSpec.ofChange Rows.fnExactGuardDownSpec) :=
  OpenClaim.holds_of_wide 3 Try.f3 rfl rfl rfl rfl rfl rfl rfl ⟨rfl, rfl, rfl, rfl, rfl⟩ rfl rfl rfl rfl rfl (by kernel_rfl) Try.func3 (by kernel_rfl)
    (of_decide_eq_true (by kernel_rfl)) (by unfold Func.isWrapper; first | (rw [if_pos (by decide +kernel)]; kernel_rfl) | (rw [if_neg (by decide +kernel)]; exact ⟨rfl, rfl⟩))
    (fun os started H enc _ => lifted os started H enc)
end Go.Proofs.Ytinfbbbgfkaioaa.LawGuardDown
namespace Go.Proofs.Ytinfbbbgfkaioaa
theorem guardDown_holds : Rows.FnExactGuardDownSaid := LawGuardDown.over
#print axioms guardDown_holds
end Go.Proofs.Ytinfbbbgfkaioaa
