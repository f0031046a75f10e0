/- At every argument the program's TidyNet answers as the specification, where the law's own bound on the sizes does not answer first; what it answers owns its memory; nothing that was there is changed. -/
import Derived.Test.YtinfbbbgfkaioaaTz
import Derived.Test.YtinfbbbgfkaioaaOl
import Derived.Test.YtinfbbbgfkaioaaRw
import Derived.Test.YtinfbbbgfkaioaaLm
import Derived.Handy
import Derived.Deep.RegionHeld3
import Derived.Deep.DeepCutAuto
namespace Go.Proofs.Ytinfbbbgfkaioaa.LawTidyNet
open Go.ChangeShapes Go.WideShapes Go.ChangeAt Go.RowKit Go.Joins
set_option linter.unusedVariables false

set_option maxHeartbeats 4000000 in
set_option maxRecDepth 20000 in
theorem walk {w : World} {nodes0 slots0 : Int} {ao0 : Option Addr} {nf0 cp0 : Nat} {F0 : Nat → Fb} (hf0 : Rf w (.slice ao0 nf0 cp0) nf0 F0) (nb0 : nf0 ≤ 9223372036854775807) (wl00 : -9223372036854775808 ≤ nodes0) (wl10 : nodes0 ≤ 9223372036854775807) (wl20 : -9223372036854775808 ≤ slots0) (wl30 : slots0 ≤ 9223372036854775807) {v1 : Value} {nl1 : Nat} {L1 : Nat → Li} (h1 : RdL w v1 nl1 L1) (nb1 : nl1 ≤ 9223372036854775807) (lb1 : LBd nl1 L1) :
    Calls Try.prog 6 #[.agg #[.int .i64 nodes0, .int .i64 slots0, .slice ao0 nf0 cp0], v1] w fun e w' => e = .returned (.bool true) ∧ Below w.heap.size w w' := by
  have H0 : Hid (Rf w (.slice ao0 nf0 cp0) nf0 F0) := hf0
  clear hf0
  obtain ⟨va1, vc1, ev1⟩ : ∃ ao cap, v1 = .slice ao nl1 cap := h1.shape
  subst ev1
  have H1 : Hid (RdL w (.slice va1 nl1 vc1) nl1 L1) := h1
  have HB1 : Hid (LBd nl1 L1) := lb1
  clear h1 lb1
  have D_w : Hid (Below w.heap.size w w) := Below.refl _ _
  have zw : w.heap.size ≤ w.heap.size := Nat.le_refl _
  obtain ⟨c, hcc⟩ : ∃ c, c = Nt.lfault nodes0 slots0 nf0 F0 nl1 L1 := ⟨_, rfl⟩
  have HCC : Hid (c = Nt.lfault nodes0 slots0 nf0 F0 nl1 L1) := hcc
  clear hcc
  go_enter Try.func6, Try.ntmps6
  go_wp2_with fail
  obtain ⟨w1, hwd⟩ : ∃ W, W = w.alloc (.cells #[.int .i64 nodes0, .int .i64 slots0, .slice ao0 nf0 cp0] 24) := ⟨_, rfl⟩
  have B_a0 : Hid (Blk w1 w.heap.size #[.int .i64 nodes0, .int .i64 slots0, .slice ao0 nf0 cp0] 24) := by rw [hwd]; exact Blk.new rfl
  have hbb : Below w.heap.size w w1 := by rw [hwd]; exact (Below.refl _ _).alloc (Nat.le_refl _) _
  rw [← hwd]
  clear hwd
  have zw1 : w.heap.size ≤ w1.heap.size := hbb.size
  replace D_w : Hid (Below w.heap.size w w1) := D_w.out.trans (hbb.mono (by omega))
  clear hbb
  refine (szNet_any _ _ _ _ _ 1048576 _ (by omega) (by omega) nb0).mono ?_
  rintro e w2 ⟨rfl, hbb⟩
  have zw2 : w1.heap.size ≤ w2.heap.size := hbb.size
  replace B_a0 : Hid (Blk w2 w.heap.size #[.int .i64 nodes0, .int .i64 slots0, .slice ao0 nf0 cp0] 24) := B_a0.out.old hbb
  replace D_w : Hid (Below w.heap.size w w2) := D_w.out.trans (hbb.mono (by omega))
  clear hbb
  obtain ⟨left0, hleft0⟩ : ∃ l, l = szN 1048576 nf0 := ⟨_, rfl⟩
  rw [← hleft0]
  by_cases hr0 : left0 < 0
  · go_wp2
    go_ret
    exact ⟨rfl, D_w.out⟩
  have hs0 := szN_ok (hleft0 ▸ hr0)
  have hs0b : left0 ≤ 1048576 := by rw [hleft0]; exact szN_le _ _ (by omega)
  clear hleft0
  have c_a0_0 := B_a0.out.cell (j := 0) rfl
  have c_a0_1 := B_a0.out.cell (j := 1) rfl
  have c_a0_2 := B_a0.out.cell (j := 2) rfl
  have l_a0 := B_a0.out.lt
  go_wp2_with fail
  refine (szLits_any (H1.out.later D_w.out) left0 (by omega) (by omega) nb1 HB1.out).mono ?_
  rintro e w3 ⟨left1, rfl, ht, hbb⟩
  clear c_a0_0 c_a0_1 c_a0_2 l_a0
  have zw3 : w2.heap.size ≤ w3.heap.size := hbb.size
  replace B_a0 : Hid (Blk w3 w.heap.size #[.int .i64 nodes0, .int .i64 slots0, .slice ao0 nf0 cp0] 24) := B_a0.out.old hbb
  replace D_w : Hid (Below w.heap.size w w3) := D_w.out.trans (hbb.mono (by omega))
  clear hbb
  have HT1 : Hid (ToldL nl1 L1 left0 left1) := ht
  clear ht
  by_cases hr1 : left1 < 0
  · go_wp2
    go_ret
    exact ⟨rfl, D_w.out⟩
  have hs1 := ToldL.ok HT1.out hr1
  have hs1b : left1 ≤ left0 := ToldL.le HT1.out hr1
  have hm1 : (nl1 : Int) ≤ 1048576 := by omega
  have HS1 : Hid (LFew nl1 L1) := ⟨by omega, by have := hs1; omega⟩
  clear HT1
  have HNM : Hid (c = 0 → (Nt.fin nl1 L1).sl.length ≤ 1048576 ∧ LFew nl1 (Nt.fin nl1 L1).L) := fun hz => tidy_few HCC.out hz HS1.out
  have c_a0_0 := B_a0.out.cell (j := 0) rfl
  have c_a0_1 := B_a0.out.cell (j := 1) rfl
  have c_a0_2 := B_a0.out.cell (j := 2) rfl
  have l_a0 := B_a0.out.lt
  go_wp2_with fail
  refine (toNet_any (H0.out.later D_w.out) (by omega)).mono ?_
  rintro e w4 ⟨gc0, rfl, hmo, hbb⟩
  clear c_a0_0 c_a0_1 c_a0_2 l_a0
  have zw4 : w3.heap.size ≤ w4.heap.size := hbb.size
  replace B_a0 : Hid (Blk w4 w.heap.size #[.int .i64 nodes0, .int .i64 slots0, .slice ao0 nf0 cp0] 24) := B_a0.out.old hbb
  replace D_w : Hid (Below w.heap.size w w4) := D_w.out.trans (hbb.mono (by omega))
  clear hbb
  have O_c0 : Hid (OwB w3.heap.size w4.heap.size w4 gc0 nf0 F0) := hmo
  clear hmo
  go_wp2_with fail
  refine (toLits_any (H1.out.later D_w.out) HS1.out).mono ?_
  rintro e w5 ⟨gc1, rfl, hmo, hbb⟩
  have zw5 : w4.heap.size ≤ w5.heap.size := hbb.size
  replace B_a0 : Hid (Blk w5 w.heap.size #[.int .i64 nodes0, .int .i64 slots0, .slice ao0 nf0 cp0] 24) := B_a0.out.old hbb
  replace O_c0 : Hid (OwB w3.heap.size w4.heap.size w5 gc0 nf0 F0) := O_c0.out.keep (keep_below hbb (by omega))
  replace D_w : Hid (Below w.heap.size w w5) := D_w.out.trans (hbb.mono (by omega))
  clear hbb
  have O_c1 : Hid (OwLs w4.heap.size w5.heap.size w5 gc1 nl1 L1) := hmo
  clear hmo
  go_wp2_with fail
  refine (sTidy_z HCC.out O_c0.out.rd O_c1.out.rd (by omega) HS1.out).mono ?_
  rintro e w6 ⟨sv, lv, rfl, hoo, hbb⟩
  obtain ⟨⟨sa, sk, sc, e1s⟩, su, sy, sz, e2s⟩ := OutZ.shape (hoo)
  subst e1s
  subst e2s
  have RS0 : Hid (OutZ w6 c (.slice sa sk sc) (.slice su sy sz) (Nt.fin nl1 L1).sl nl1 (Nt.fin nl1 L1).L) := hoo
  clear hoo
  have zw6 : w5.heap.size ≤ w6.heap.size := hbb.size
  replace B_a0 : Hid (Blk w6 w.heap.size #[.int .i64 nodes0, .int .i64 slots0, .slice ao0 nf0 cp0] 24) := B_a0.out.old hbb
  replace O_c0 : Hid (OwB w3.heap.size w4.heap.size w6 gc0 nf0 F0) := O_c0.out.keep (keep_below hbb (by omega))
  replace O_c1 : Hid (OwLs w4.heap.size w5.heap.size w6 gc1 nl1 L1) := O_c1.out.keep (keep_below hbb (by omega))
  replace D_w : Hid (Below w.heap.size w w6) := D_w.out.trans (hbb.mono (by omega))
  clear hbb
  clear O_c0
  clear O_c1
  have c_a0_0 := B_a0.out.cell (j := 0) rfl
  have c_a0_1 := B_a0.out.cell (j := 1) rfl
  have c_a0_2 := B_a0.out.cell (j := 2) rfl
  have l_a0 := B_a0.out.lt
  go_wp2_with fail
  obtain ⟨w7, hwd⟩ : ∃ W, W = w6.alloc (.cells #[.int .i64 c, .slice sa sk sc, .slice su sy sz] 64) := ⟨_, rfl⟩
  have NB : Hid (Blk w7 w6.heap.size #[.int .i64 c, .slice sa sk sc, .slice su sy sz] 64) := by rw [hwd]; exact Blk.new rfl
  have hbb : Below w6.heap.size w6 w7 := by rw [hwd]; exact (Below.refl _ _).alloc (Nat.le_refl _) _
  have yw7 : w6.heap.size + 1 ≤ w7.heap.size := by rw [hwd]; simp
  have HWD : Hid (w7 = w6.alloc (.cells #[.int .i64 c, .slice sa sk sc, .slice su sy sz] 64)) := hwd
  rw [← hwd]
  clear hwd
  clear c_a0_0 c_a0_1 c_a0_2 l_a0
  have zw7 : w6.heap.size ≤ w7.heap.size := hbb.size
  replace B_a0 : Hid (Blk w7 w.heap.size #[.int .i64 nodes0, .int .i64 slots0, .slice ao0 nf0 cp0] 24) := B_a0.out.old hbb
  replace D_w : Hid (Below w.heap.size w w7) := D_w.out.trans (hbb.mono (by omega))
  clear hbb
  have B_S := NB
  clear NB
  have RS : Hid (OutZ w7 c (.slice sa sk sc) (.slice su sy sz) (Nt.fin nl1 L1).sl nl1 (Nt.fin nl1 L1).L) := RS0.out.later (show Below w6.heap.size w6 w7 from by rw [HWD.out]; exact (Below.refl _ _).alloc (Nat.le_refl _) _)
  clear RS0 HWD
  have D_w7 : Hid (Below w7.heap.size w7 w7) := Below.refl _ _
  refine (toNet_any (H0.out.later D_w.out) (by omega)).mono ?_
  rintro e w8 ⟨gx0, rfl, hmo, hbb⟩
  have zw8 : w7.heap.size ≤ w8.heap.size := hbb.size
  replace B_a0 : Hid (Blk w8 w.heap.size #[.int .i64 nodes0, .int .i64 slots0, .slice ao0 nf0 cp0] 24) := B_a0.out.old hbb
  replace B_S : Hid (Blk w8 w6.heap.size #[.int .i64 c, .slice sa sk sc, .slice su sy sz] 64) := B_S.out.old hbb
  replace D_w : Hid (Below w.heap.size w w8) := D_w.out.trans (hbb.mono (by omega))
  replace D_w7 : Hid (Below w7.heap.size w7 w8) := D_w7.out.trans (hbb.mono (by omega))
  clear hbb
  have O_x0 : Hid (OwB w7.heap.size w8.heap.size w8 gx0 nf0 F0) := hmo
  clear hmo
  go_wp2_with fail
  obtain ⟨w9, hwd⟩ : ∃ W, W = w8.alloc (.cells #[.int .i64 nodes0, .int .i64 slots0, .slice (some ⟨gx0, 0, none⟩) nf0 nf0] 37) := ⟨_, rfl⟩
  have NB : Hid (Blk w9 w8.heap.size #[.int .i64 nodes0, .int .i64 slots0, .slice (some ⟨gx0, 0, none⟩) nf0 nf0] 37) := by rw [hwd]; exact Blk.new rfl
  have hbb : Below w8.heap.size w8 w9 := by rw [hwd]; exact (Below.refl _ _).alloc (Nat.le_refl _) _
  have yw9 : w8.heap.size + 1 ≤ w9.heap.size := by rw [hwd]; simp
  rw [← hwd]
  clear hwd
  have zw9 : w8.heap.size ≤ w9.heap.size := hbb.size
  replace B_a0 : Hid (Blk w9 w.heap.size #[.int .i64 nodes0, .int .i64 slots0, .slice ao0 nf0 cp0] 24) := B_a0.out.old hbb
  replace B_S : Hid (Blk w9 w6.heap.size #[.int .i64 c, .slice sa sk sc, .slice su sy sz] 64) := B_S.out.old hbb
  replace O_x0 : Hid (OwB w7.heap.size w8.heap.size w9 gx0 nf0 F0) := O_x0.out.keep (keep_below hbb (by omega))
  replace D_w : Hid (Below w.heap.size w w9) := D_w.out.trans (hbb.mono (by omega))
  replace D_w7 : Hid (Below w7.heap.size w7 w9) := D_w7.out.trans (hbb.mono (by omega))
  clear hbb
  have B_x0 := NB
  clear NB
  refine (toLits_any (H1.out.later D_w.out) HS1.out).mono ?_
  rintro e w10 ⟨gx1, rfl, hmo, hbb⟩
  have zw10 : w9.heap.size ≤ w10.heap.size := hbb.size
  replace B_a0 : Hid (Blk w10 w.heap.size #[.int .i64 nodes0, .int .i64 slots0, .slice ao0 nf0 cp0] 24) := B_a0.out.old hbb
  replace B_S : Hid (Blk w10 w6.heap.size #[.int .i64 c, .slice sa sk sc, .slice su sy sz] 64) := B_S.out.old hbb
  replace B_x0 : Hid (Blk w10 w8.heap.size #[.int .i64 nodes0, .int .i64 slots0, .slice (some ⟨gx0, 0, none⟩) nf0 nf0] 37) := B_x0.out.old hbb
  replace O_x0 : Hid (OwB w7.heap.size w8.heap.size w10 gx0 nf0 F0) := O_x0.out.keep (keep_below hbb (by omega))
  replace D_w : Hid (Below w.heap.size w w10) := D_w.out.trans (hbb.mono (by omega))
  replace D_w7 : Hid (Below w7.heap.size w7 w10) := D_w7.out.trans (hbb.mono (by omega))
  clear hbb
  have O_x1 : Hid (OwLs w9.heap.size w10.heap.size w10 gx1 nl1 L1) := hmo
  clear hmo
  have c_x0_0 := B_x0.out.cell (j := 0) rfl
  have c_x0_1 := B_x0.out.cell (j := 1) rfl
  have c_x0_2 := B_x0.out.cell (j := 2) rfl
  have l_x0 := B_x0.out.lt
  go_wp2_with fail
  refine (iTidy_any HCC.out O_x0.out.rd O_x1.out.rd (by omega) HS1.out (Nat.le_refl _) HB1.out).mono ?_
  rintro e w11 ⟨gv, gl, rfl, hoo, hbb⟩
  clear c_x0_0 c_x0_1 c_x0_2 l_x0
  obtain ⟨⟨ga, gk, gc, e1g⟩, gu, gy, gz, e2g⟩ := OutZ.shape (OwnU.rd hoo)
  subst e1g
  subst e2g
  have zw11 : w10.heap.size ≤ w11.heap.size := hbb.size
  replace B_a0 : Hid (Blk w11 w.heap.size #[.int .i64 nodes0, .int .i64 slots0, .slice ao0 nf0 cp0] 24) := B_a0.out.old hbb
  replace B_S : Hid (Blk w11 w6.heap.size #[.int .i64 c, .slice sa sk sc, .slice su sy sz] 64) := B_S.out.old hbb
  replace B_x0 : Hid (Blk w11 w8.heap.size #[.int .i64 nodes0, .int .i64 slots0, .slice (some ⟨gx0, 0, none⟩) nf0 nf0] 37) := B_x0.out.old hbb
  replace O_x0 : Hid (OwB w7.heap.size w8.heap.size w11 gx0 nf0 F0) := O_x0.out.keep (keep_below hbb (by omega))
  replace O_x1 : Hid (OwLs w9.heap.size w10.heap.size w11 gx1 nl1 L1) := O_x1.out.keep (keep_below hbb (by omega))
  replace D_w : Hid (Below w.heap.size w w11) := D_w.out.trans (hbb.mono (by omega))
  replace D_w7 : Hid (Below w7.heap.size w7 w11) := D_w7.out.trans (hbb.mono (by omega))
  have O_g : Hid (OwnU w10.heap.size w11.heap.size w11 c (.slice ga gk gc) (.slice gu gy gz) (Nt.fin nl1 L1).sl nl1 (Nt.fin nl1 L1).L) := hoo
  clear hoo hbb
  have c_S_0 := B_S.out.cell (j := 0) rfl
  have c_S_1 := B_S.out.cell (j := 1) rfl
  have c_S_2 := B_S.out.cell (j := 2) rfl
  have l_S := B_S.out.lt
  go_wp2_with fail
  obtain ⟨w12, hwd⟩ : ∃ W, W = w11.alloc (.cells #[.int .i64 c, .slice ga gk gc, .slice gu gy gz] 64) := ⟨_, rfl⟩
  have NB : Hid (Blk w12 w11.heap.size #[.int .i64 c, .slice ga gk gc, .slice gu gy gz] 64) := by rw [hwd]; exact Blk.new rfl
  have hbb : Below w11.heap.size w11 w12 := by rw [hwd]; exact (Below.refl _ _).alloc (Nat.le_refl _) _
  have yw12 : w11.heap.size + 1 ≤ w12.heap.size := by rw [hwd]; simp
  rw [← hwd]
  clear hwd
  clear c_S_0 c_S_1 c_S_2 l_S
  have zw12 : w11.heap.size ≤ w12.heap.size := hbb.size
  replace B_a0 : Hid (Blk w12 w.heap.size #[.int .i64 nodes0, .int .i64 slots0, .slice ao0 nf0 cp0] 24) := B_a0.out.old hbb
  replace B_S : Hid (Blk w12 w6.heap.size #[.int .i64 c, .slice sa sk sc, .slice su sy sz] 64) := B_S.out.old hbb
  replace B_x0 : Hid (Blk w12 w8.heap.size #[.int .i64 nodes0, .int .i64 slots0, .slice (some ⟨gx0, 0, none⟩) nf0 nf0] 37) := B_x0.out.old hbb
  replace O_x0 : Hid (OwB w7.heap.size w8.heap.size w12 gx0 nf0 F0) := O_x0.out.keep (keep_below hbb (by omega))
  replace O_x1 : Hid (OwLs w9.heap.size w10.heap.size w12 gx1 nl1 L1) := O_x1.out.keep (keep_below hbb (by omega))
  replace O_g : Hid (OwnU w10.heap.size w11.heap.size w12 c (.slice ga gk gc) (.slice gu gy gz) (Nt.fin nl1 L1).sl nl1 (Nt.fin nl1 L1).L) := O_g.out.keep (keep_below hbb (by omega))
  replace D_w : Hid (Below w.heap.size w w12) := D_w.out.trans (hbb.mono (by omega))
  replace D_w7 : Hid (Below w7.heap.size w7 w12) := D_w7.out.trans (hbb.mono (by omega))
  clear hbb
  have B_G := NB
  clear NB
  refine (eqZ_any O_g.out.rd (RS.out.later D_w7.out) HNM.out).mono ?_
  rintro e w13 ⟨rfl, hbb⟩
  have zw13 : w12.heap.size ≤ w13.heap.size := hbb.size
  replace B_a0 : Hid (Blk w13 w.heap.size #[.int .i64 nodes0, .int .i64 slots0, .slice ao0 nf0 cp0] 24) := B_a0.out.old hbb
  replace B_S : Hid (Blk w13 w6.heap.size #[.int .i64 c, .slice sa sk sc, .slice su sy sz] 64) := B_S.out.old hbb
  replace B_x0 : Hid (Blk w13 w8.heap.size #[.int .i64 nodes0, .int .i64 slots0, .slice (some ⟨gx0, 0, none⟩) nf0 nf0] 37) := B_x0.out.old hbb
  replace B_G : Hid (Blk w13 w11.heap.size #[.int .i64 c, .slice ga gk gc, .slice gu gy gz] 64) := B_G.out.old hbb
  replace O_x0 : Hid (OwB w7.heap.size w8.heap.size w13 gx0 nf0 F0) := O_x0.out.keep (keep_below hbb (by omega))
  replace O_x1 : Hid (OwLs w9.heap.size w10.heap.size w13 gx1 nl1 L1) := O_x1.out.keep (keep_below hbb (by omega))
  replace O_g : Hid (OwnU w10.heap.size w11.heap.size w13 c (.slice ga gk gc) (.slice gu gy gz) (Nt.fin nl1 L1).sl nl1 (Nt.fin nl1 L1).L) := O_g.out.keep (keep_below hbb (by omega))
  replace D_w : Hid (Below w.heap.size w w13) := D_w.out.trans (hbb.mono (by omega))
  replace D_w7 : Hid (Below w7.heap.size w7 w13) := D_w7.out.trans (hbb.mono (by omega))
  clear hbb
  have q_x0_0 : ∀ W, Below w13.heap.size w13 W → W.cell? ⟨w8.heap.size, 0, none⟩ = some (.int .i64 nodes0) := fun W h => (B_x0.out.old h).cell (j := 0) rfl
  have q_x0_1 : ∀ W, Below w13.heap.size w13 W → W.cell? ⟨w8.heap.size, 1, none⟩ = some (.int .i64 slots0) := fun W h => (B_x0.out.old h).cell (j := 1) rfl
  have q_x0_2 : ∀ W, Below w13.heap.size w13 W → W.cell? ⟨w8.heap.size, 2, none⟩ = some (.slice (some ⟨gx0, 0, none⟩) nf0 nf0) := fun W h => (B_x0.out.old h).cell (j := 2) rfl
  have q_a0_0 : ∀ W, Below w13.heap.size w13 W → W.cell? ⟨w.heap.size, 0, none⟩ = some (.int .i64 nodes0) := fun W h => (B_a0.out.old h).cell (j := 0) rfl
  have q_a0_1 : ∀ W, Below w13.heap.size w13 W → W.cell? ⟨w.heap.size, 1, none⟩ = some (.int .i64 slots0) := fun W h => (B_a0.out.old h).cell (j := 1) rfl
  have q_a0_2 : ∀ W, Below w13.heap.size w13 W → W.cell? ⟨w.heap.size, 2, none⟩ = some (.slice ao0 nf0 cp0) := fun W h => (B_a0.out.old h).cell (j := 2) rfl
  have QA : ∀ W, Below w13.heap.size w13 W → Hid (Rf W (.slice ao0 nf0 cp0) nf0 F0) := fun W h => H0.out.later (D_w.out.trans (h.mono (by omega)))
  have QX : ∀ W, Below w13.heap.size w13 W → Hid (OwB w7.heap.size w8.heap.size W gx0 nf0 F0) := fun W h => O_x0.out.keep (keep_below h (by omega))
  go_wp2_with fail
  go_region_held (fun W => Below w13.heap.size w13 W) (go_grown)
    (first | (go_at_call 13; refine Calls.mono (toNet_any (QA _ (by go_grown)).out (by omega)) ?_; rintro e w14 ⟨gqa, rfl, hmo, hb1⟩; have hR1 : Below w13.heap.size w13 w14 := box_step (by go_grown) hb1 (Nat.le_refl _)) | (go_at_call 18; refine Calls.mono (eqNet_any (QX _ (by go_grown)).out hmo (by omega)) ?_; rintro e w15 ⟨rfl, hb2⟩; have hR2 : Below w13.heap.size w13 w15 := box_step hR1 hb2 (Nat.le_refl _)))
  have hbb : Below w13.heap.size w13 w15 := hR2
  clear hR1 hR2 hmo hb1 hb2 QA QX q_x0_0 q_x0_1 q_x0_2 q_a0_0 q_a0_1 q_a0_2
  have zw15 : w13.heap.size ≤ w15.heap.size := hbb.size
  replace B_a0 : Hid (Blk w15 w.heap.size #[.int .i64 nodes0, .int .i64 slots0, .slice ao0 nf0 cp0] 24) := B_a0.out.old hbb
  replace B_S : Hid (Blk w15 w6.heap.size #[.int .i64 c, .slice sa sk sc, .slice su sy sz] 64) := B_S.out.old hbb
  replace B_x0 : Hid (Blk w15 w8.heap.size #[.int .i64 nodes0, .int .i64 slots0, .slice (some ⟨gx0, 0, none⟩) nf0 nf0] 37) := B_x0.out.old hbb
  replace B_G : Hid (Blk w15 w11.heap.size #[.int .i64 c, .slice ga gk gc, .slice gu gy gz] 64) := B_G.out.old hbb
  replace O_x0 : Hid (OwB w7.heap.size w8.heap.size w15 gx0 nf0 F0) := O_x0.out.keep (keep_below hbb (by omega))
  replace O_x1 : Hid (OwLs w9.heap.size w10.heap.size w15 gx1 nl1 L1) := O_x1.out.keep (keep_below hbb (by omega))
  replace O_g : Hid (OwnU w10.heap.size w11.heap.size w15 c (.slice ga gk gc) (.slice gu gy gz) (Nt.fin nl1 L1).sl nl1 (Nt.fin nl1 L1).L) := O_g.out.keep (keep_below hbb (by omega))
  replace D_w : Hid (Below w.heap.size w w15) := D_w.out.trans (hbb.mono (by omega))
  replace D_w7 : Hid (Below w7.heap.size w7 w15) := D_w7.out.trans (hbb.mono (by omega))
  clear hbb
  go_wp2_with fail
  refine (toLits_any (H1.out.later D_w.out) HS1.out).mono ?_
  rintro e w16 ⟨gq, rfl, hmo, hbb⟩
  have zw16 : w15.heap.size ≤ w16.heap.size := hbb.size
  replace B_a0 : Hid (Blk w16 w.heap.size #[.int .i64 nodes0, .int .i64 slots0, .slice ao0 nf0 cp0] 24) := B_a0.out.old hbb
  replace B_S : Hid (Blk w16 w6.heap.size #[.int .i64 c, .slice sa sk sc, .slice su sy sz] 64) := B_S.out.old hbb
  replace B_x0 : Hid (Blk w16 w8.heap.size #[.int .i64 nodes0, .int .i64 slots0, .slice (some ⟨gx0, 0, none⟩) nf0 nf0] 37) := B_x0.out.old hbb
  replace B_G : Hid (Blk w16 w11.heap.size #[.int .i64 c, .slice ga gk gc, .slice gu gy gz] 64) := B_G.out.old hbb
  replace O_x0 : Hid (OwB w7.heap.size w8.heap.size w16 gx0 nf0 F0) := O_x0.out.keep (keep_below hbb (by omega))
  replace O_x1 : Hid (OwLs w9.heap.size w10.heap.size w16 gx1 nl1 L1) := O_x1.out.keep (keep_below hbb (by omega))
  replace O_g : Hid (OwnU w10.heap.size w11.heap.size w16 c (.slice ga gk gc) (.slice gu gy gz) (Nt.fin nl1 L1).sl nl1 (Nt.fin nl1 L1).L) := O_g.out.keep (keep_below hbb (by omega))
  replace D_w : Hid (Below w.heap.size w w16) := D_w.out.trans (hbb.mono (by omega))
  replace D_w7 : Hid (Below w7.heap.size w7 w16) := D_w7.out.trans (hbb.mono (by omega))
  clear hbb
  have O_q : Hid (OwLs w15.heap.size w16.heap.size w16 gq nl1 L1) := hmo
  clear hmo
  go_wp2_with fail
  refine (eqLits_any O_x1.out.rd O_q.out.rd HS1.out).mono ?_
  rintro e w17 ⟨rfl, hbb⟩
  clear O_q
  have zw17 : w16.heap.size ≤ w17.heap.size := hbb.size
  replace B_a0 : Hid (Blk w17 w.heap.size #[.int .i64 nodes0, .int .i64 slots0, .slice ao0 nf0 cp0] 24) := B_a0.out.old hbb
  replace B_S : Hid (Blk w17 w6.heap.size #[.int .i64 c, .slice sa sk sc, .slice su sy sz] 64) := B_S.out.old hbb
  replace B_x0 : Hid (Blk w17 w8.heap.size #[.int .i64 nodes0, .int .i64 slots0, .slice (some ⟨gx0, 0, none⟩) nf0 nf0] 37) := B_x0.out.old hbb
  replace B_G : Hid (Blk w17 w11.heap.size #[.int .i64 c, .slice ga gk gc, .slice gu gy gz] 64) := B_G.out.old hbb
  replace O_x0 : Hid (OwB w7.heap.size w8.heap.size w17 gx0 nf0 F0) := O_x0.out.keep (keep_below hbb (by omega))
  replace O_x1 : Hid (OwLs w9.heap.size w10.heap.size w17 gx1 nl1 L1) := O_x1.out.keep (keep_below hbb (by omega))
  replace O_g : Hid (OwnU w10.heap.size w11.heap.size w17 c (.slice ga gk gc) (.slice gu gy gz) (Nt.fin nl1 L1).sl nl1 (Nt.fin nl1 L1).L) := O_g.out.keep (keep_below hbb (by omega))
  replace D_w : Hid (Below w.heap.size w w17) := D_w.out.trans (hbb.mono (by omega))
  replace D_w7 : Hid (Below w7.heap.size w7 w17) := D_w7.out.trans (hbb.mono (by omega))
  clear hbb
  have c_x0_0 := B_x0.out.cell (j := 0) rfl
  have c_x0_1 := B_x0.out.cell (j := 1) rfl
  have c_x0_2 := B_x0.out.cell (j := 2) rfl
  have l_x0 := B_x0.out.lt
  go_wp2_with fail
  refine (markNet_any 1 O_x0.out (by omega) (by omega) (by omega) (by omega)).mono ?_
  rintro e w18 ⟨rfl, hww⟩
  clear c_x0_0 c_x0_1 c_x0_2 l_x0
  have zw18 : w17.heap.size ≤ w18.heap.size := hww.below.size
  replace B_a0 : Hid (Blk w18 w.heap.size #[.int .i64 nodes0, .int .i64 slots0, .slice ao0 nf0 cp0] 24) := B_a0.out.within hww (by omega)
  replace B_S : Hid (Blk w18 w6.heap.size #[.int .i64 c, .slice sa sk sc, .slice su sy sz] 64) := B_S.out.within hww (by omega)
  replace B_x0 : Hid (Blk w18 w8.heap.size #[.int .i64 nodes0, .int .i64 slots0, .slice (some ⟨gx0, 0, none⟩) nf0 nf0] 37) := B_x0.out.within hww (by omega)
  replace B_G : Hid (Blk w18 w11.heap.size #[.int .i64 c, .slice ga gk gc, .slice gu gy gz] 64) := B_G.out.within hww (by omega)
  replace O_x1 : Hid (OwLs w9.heap.size w10.heap.size w18 gx1 nl1 L1) := O_x1.out.keep (keep_apart hww (by omega) (by omega))
  replace O_g : Hid (OwnU w10.heap.size w11.heap.size w18 c (.slice ga gk gc) (.slice gu gy gz) (Nt.fin nl1 L1).sl nl1 (Nt.fin nl1 L1).L) := O_g.out.keep (keep_apart hww (by omega) (by omega))
  replace D_w : Hid (Below w.heap.size w w18) := D_w.out.trans (hww.below.mono (by omega))
  replace D_w7 : Hid (Below w7.heap.size w7 w18) := D_w7.out.trans (hww.below.mono (by omega))
  clear hww O_x0
  obtain ⟨k1, hk⟩ : ∃ k : Int, k = mF 1 nf0 := ⟨_, rfl⟩
  have hk1a : 0 ≤ k1 := by rw [hk]; unfold mF; omega
  have hk1b : k1 ≤ 1 + 8000000 := by rw [hk]; unfold mF; omega
  rw [← hk]
  clear hk
  go_wp2_with fail
  refine (markLits_any k1 O_x1.out (by omega) (by omega) HS1.out).mono ?_
  rintro e w19 ⟨rfl, _, hww⟩
  have zw19 : w18.heap.size ≤ w19.heap.size := hww.below.size
  replace B_a0 : Hid (Blk w19 w.heap.size #[.int .i64 nodes0, .int .i64 slots0, .slice ao0 nf0 cp0] 24) := B_a0.out.within hww (by omega)
  replace B_S : Hid (Blk w19 w6.heap.size #[.int .i64 c, .slice sa sk sc, .slice su sy sz] 64) := B_S.out.within hww (by omega)
  replace B_x0 : Hid (Blk w19 w8.heap.size #[.int .i64 nodes0, .int .i64 slots0, .slice (some ⟨gx0, 0, none⟩) nf0 nf0] 37) := B_x0.out.within hww (by omega)
  replace B_G : Hid (Blk w19 w11.heap.size #[.int .i64 c, .slice ga gk gc, .slice gu gy gz] 64) := B_G.out.within hww (by omega)
  replace O_g : Hid (OwnU w10.heap.size w11.heap.size w19 c (.slice ga gk gc) (.slice gu gy gz) (Nt.fin nl1 L1).sl nl1 (Nt.fin nl1 L1).L) := O_g.out.keep (keep_apart hww (by omega) (by omega))
  replace D_w : Hid (Below w.heap.size w w19) := D_w.out.trans (hww.below.mono (by omega))
  replace D_w7 : Hid (Below w7.heap.size w7 w19) := D_w7.out.trans (hww.below.mono (by omega))
  clear hww O_x1
  obtain ⟨k2, hk⟩ : ∃ k : Int, k = mLs k1 L1 nl1 := ⟨_, rfl⟩
  have hk2a : 0 ≤ k2 := by rw [hk]; have := mLs_lo k1 L1 nl1; have := mLs_hi k1 HS1.out; omega
  have hk2b : k2 ≤ k1 + 8000000 := by rw [hk]; have := mLs_lo k1 L1 nl1; have := mLs_hi k1 HS1.out; omega
  rw [← hk]
  clear hk
  have c_G_0 := B_G.out.cell (j := 0) rfl
  have c_G_1 := B_G.out.cell (j := 1) rfl
  have c_G_2 := B_G.out.cell (j := 2) rfl
  have l_G := B_G.out.lt
  have c_S_0 := B_S.out.cell (j := 0) rfl
  have c_S_1 := B_S.out.cell (j := 1) rfl
  have c_S_2 := B_S.out.cell (j := 2) rfl
  have l_S := B_S.out.lt
  go_wp2_with fail
  refine (eqZ_any O_g.out.rd (RS.out.later D_w7.out) HNM.out).mono ?_
  rintro e w20 ⟨rfl, hbb⟩
  clear c_G_0 c_G_1 c_G_2 l_G c_S_0 c_S_1 c_S_2 l_S
  have zw20 : w19.heap.size ≤ w20.heap.size := hbb.size
  replace B_a0 : Hid (Blk w20 w.heap.size #[.int .i64 nodes0, .int .i64 slots0, .slice ao0 nf0 cp0] 24) := B_a0.out.old hbb
  replace B_S : Hid (Blk w20 w6.heap.size #[.int .i64 c, .slice sa sk sc, .slice su sy sz] 64) := B_S.out.old hbb
  replace B_x0 : Hid (Blk w20 w8.heap.size #[.int .i64 nodes0, .int .i64 slots0, .slice (some ⟨gx0, 0, none⟩) nf0 nf0] 37) := B_x0.out.old hbb
  replace B_G : Hid (Blk w20 w11.heap.size #[.int .i64 c, .slice ga gk gc, .slice gu gy gz] 64) := B_G.out.old hbb
  replace O_g : Hid (OwnU w10.heap.size w11.heap.size w20 c (.slice ga gk gc) (.slice gu gy gz) (Nt.fin nl1 L1).sl nl1 (Nt.fin nl1 L1).L) := O_g.out.keep (keep_below hbb (by omega))
  replace D_w : Hid (Below w.heap.size w w20) := D_w.out.trans (hbb.mono (by omega))
  replace D_w7 : Hid (Below w7.heap.size w7 w20) := D_w7.out.trans (hbb.mono (by omega))
  clear hbb
  have c_G_0 := B_G.out.cell (j := 0) rfl
  have c_G_1 := B_G.out.cell (j := 1) rfl
  have c_G_2 := B_G.out.cell (j := 2) rfl
  have l_G := B_G.out.lt
  go_wp2_with fail
  refine (markU_any O_g.out HNM.out (by omega)).mono ?_
  rintro e w21 ⟨r, rfl, hmk, hww⟩
  clear c_G_0 c_G_1 c_G_2 l_G
  have hr0 : 0 ≤ r := hmk.pos
  have zw21 : w20.heap.size ≤ w21.heap.size := hww.below.size
  replace B_a0 : Hid (Blk w21 w.heap.size #[.int .i64 nodes0, .int .i64 slots0, .slice ao0 nf0 cp0] 24) := B_a0.out.within hww (by omega)
  replace B_S : Hid (Blk w21 w6.heap.size #[.int .i64 c, .slice sa sk sc, .slice su sy sz] 64) := B_S.out.within hww (by omega)
  replace B_x0 : Hid (Blk w21 w8.heap.size #[.int .i64 nodes0, .int .i64 slots0, .slice (some ⟨gx0, 0, none⟩) nf0 nf0] 37) := B_x0.out.within hww (by omega)
  replace B_G : Hid (Blk w21 w11.heap.size #[.int .i64 c, .slice ga gk gc, .slice gu gy gz] 64) := B_G.out.within hww (by omega)
  replace D_w : Hid (Below w.heap.size w w21) := D_w.out.trans (hww.below.mono (by omega))
  replace D_w7 : Hid (Below w7.heap.size w7 w21) := D_w7.out.trans (hww.below.mono (by omega))
  replace O_g : Hid (MkdU w10.heap.size w11.heap.size w21 c (.slice ga gk gc) (.slice gu gy gz) (Nt.fin nl1 L1).sl.length nl1 (Nt.fin nl1 L1).L r) := hmk
  clear hmk hww
  have c_G_0 := B_G.out.cell (j := 0) rfl
  have c_G_1 := B_G.out.cell (j := 1) rfl
  have c_G_2 := B_G.out.cell (j := 2) rfl
  have l_G := B_G.out.lt
  go_wp2_with fail
  refine (heldU_any O_g.out HNM.out (by omega)).mono ?_
  rintro e w22 ⟨rfl, hbb⟩
  clear c_G_0 c_G_1 c_G_2 l_G
  have zw22 : w21.heap.size ≤ w22.heap.size := hbb.size
  replace B_a0 : Hid (Blk w22 w.heap.size #[.int .i64 nodes0, .int .i64 slots0, .slice ao0 nf0 cp0] 24) := B_a0.out.old hbb
  replace B_S : Hid (Blk w22 w6.heap.size #[.int .i64 c, .slice sa sk sc, .slice su sy sz] 64) := B_S.out.old hbb
  replace B_x0 : Hid (Blk w22 w8.heap.size #[.int .i64 nodes0, .int .i64 slots0, .slice (some ⟨gx0, 0, none⟩) nf0 nf0] 37) := B_x0.out.old hbb
  replace B_G : Hid (Blk w22 w11.heap.size #[.int .i64 c, .slice ga gk gc, .slice gu gy gz] 64) := B_G.out.old hbb
  replace O_g : Hid (MkdU w10.heap.size w11.heap.size w22 c (.slice ga gk gc) (.slice gu gy gz) (Nt.fin nl1 L1).sl.length nl1 (Nt.fin nl1 L1).L r) := O_g.out.keep (keep_below hbb (by omega))
  replace D_w : Hid (Below w.heap.size w w22) := D_w.out.trans (hbb.mono (by omega))
  replace D_w7 : Hid (Below w7.heap.size w7 w22) := D_w7.out.trans (hbb.mono (by omega))
  clear hbb
  have c_a0_0 := B_a0.out.cell (j := 0) rfl
  have c_a0_1 := B_a0.out.cell (j := 1) rfl
  have c_a0_2 := B_a0.out.cell (j := 2) rfl
  have l_a0 := B_a0.out.lt
  go_wp2_with fail
  refine (toNet_any (H0.out.later D_w.out) (by omega)).mono ?_
  rintro e w23 ⟨gh0, rfl, hmo, hbb⟩
  clear c_a0_0 c_a0_1 c_a0_2 l_a0
  have zw23 : w22.heap.size ≤ w23.heap.size := hbb.size
  replace B_a0 : Hid (Blk w23 w.heap.size #[.int .i64 nodes0, .int .i64 slots0, .slice ao0 nf0 cp0] 24) := B_a0.out.old hbb
  replace B_S : Hid (Blk w23 w6.heap.size #[.int .i64 c, .slice sa sk sc, .slice su sy sz] 64) := B_S.out.old hbb
  replace B_x0 : Hid (Blk w23 w8.heap.size #[.int .i64 nodes0, .int .i64 slots0, .slice (some ⟨gx0, 0, none⟩) nf0 nf0] 37) := B_x0.out.old hbb
  replace B_G : Hid (Blk w23 w11.heap.size #[.int .i64 c, .slice ga gk gc, .slice gu gy gz] 64) := B_G.out.old hbb
  replace O_g : Hid (MkdU w10.heap.size w11.heap.size w23 c (.slice ga gk gc) (.slice gu gy gz) (Nt.fin nl1 L1).sl.length nl1 (Nt.fin nl1 L1).L r) := O_g.out.keep (keep_below hbb (by omega))
  replace D_w : Hid (Below w.heap.size w w23) := D_w.out.trans (hbb.mono (by omega))
  replace D_w7 : Hid (Below w7.heap.size w7 w23) := D_w7.out.trans (hbb.mono (by omega))
  clear hbb
  have O_h0 : Hid (OwB w22.heap.size w23.heap.size w23 gh0 nf0 F0) := hmo
  clear hmo
  go_wp2_with fail
  refine (toLits_any (H1.out.later D_w.out) HS1.out).mono ?_
  rintro e w24 ⟨gh1, rfl, hmo, hbb⟩
  have zw24 : w23.heap.size ≤ w24.heap.size := hbb.size
  replace B_a0 : Hid (Blk w24 w.heap.size #[.int .i64 nodes0, .int .i64 slots0, .slice ao0 nf0 cp0] 24) := B_a0.out.old hbb
  replace B_S : Hid (Blk w24 w6.heap.size #[.int .i64 c, .slice sa sk sc, .slice su sy sz] 64) := B_S.out.old hbb
  replace B_x0 : Hid (Blk w24 w8.heap.size #[.int .i64 nodes0, .int .i64 slots0, .slice (some ⟨gx0, 0, none⟩) nf0 nf0] 37) := B_x0.out.old hbb
  replace B_G : Hid (Blk w24 w11.heap.size #[.int .i64 c, .slice ga gk gc, .slice gu gy gz] 64) := B_G.out.old hbb
  replace O_g : Hid (MkdU w10.heap.size w11.heap.size w24 c (.slice ga gk gc) (.slice gu gy gz) (Nt.fin nl1 L1).sl.length nl1 (Nt.fin nl1 L1).L r) := O_g.out.keep (keep_below hbb (by omega))
  replace O_h0 : Hid (OwB w22.heap.size w23.heap.size w24 gh0 nf0 F0) := O_h0.out.keep (keep_below hbb (by omega))
  replace D_w : Hid (Below w.heap.size w w24) := D_w.out.trans (hbb.mono (by omega))
  replace D_w7 : Hid (Below w7.heap.size w7 w24) := D_w7.out.trans (hbb.mono (by omega))
  clear hbb
  have O_h1 : Hid (OwLs w23.heap.size w24.heap.size w24 gh1 nl1 L1) := hmo
  clear hmo
  go_wp2_with fail
  refine (iTidy_any HCC.out O_h0.out.rd O_h1.out.rd (by omega) HS1.out (Nat.le_refl _) HB1.out).mono ?_
  rintro e w25 ⟨hv, hl, rfl, hoo, hbb⟩
  obtain ⟨⟨ha, hk, hc, e1h⟩, hu, hy, hz, e2h⟩ := OutZ.shape (OwnU.rd hoo)
  subst e1h
  subst e2h
  have zw25 : w24.heap.size ≤ w25.heap.size := hbb.size
  replace B_a0 : Hid (Blk w25 w.heap.size #[.int .i64 nodes0, .int .i64 slots0, .slice ao0 nf0 cp0] 24) := B_a0.out.old hbb
  replace B_S : Hid (Blk w25 w6.heap.size #[.int .i64 c, .slice sa sk sc, .slice su sy sz] 64) := B_S.out.old hbb
  replace B_x0 : Hid (Blk w25 w8.heap.size #[.int .i64 nodes0, .int .i64 slots0, .slice (some ⟨gx0, 0, none⟩) nf0 nf0] 37) := B_x0.out.old hbb
  replace B_G : Hid (Blk w25 w11.heap.size #[.int .i64 c, .slice ga gk gc, .slice gu gy gz] 64) := B_G.out.old hbb
  replace O_g : Hid (MkdU w10.heap.size w11.heap.size w25 c (.slice ga gk gc) (.slice gu gy gz) (Nt.fin nl1 L1).sl.length nl1 (Nt.fin nl1 L1).L r) := O_g.out.keep (keep_below hbb (by omega))
  replace O_h0 : Hid (OwB w22.heap.size w23.heap.size w25 gh0 nf0 F0) := O_h0.out.keep (keep_below hbb (by omega))
  replace O_h1 : Hid (OwLs w23.heap.size w24.heap.size w25 gh1 nl1 L1) := O_h1.out.keep (keep_below hbb (by omega))
  replace D_w : Hid (Below w.heap.size w w25) := D_w.out.trans (hbb.mono (by omega))
  replace D_w7 : Hid (Below w7.heap.size w7 w25) := D_w7.out.trans (hbb.mono (by omega))
  have O_h : Hid (OwnU w24.heap.size w25.heap.size w25 c (.slice ha hk hc) (.slice hu hy hz) (Nt.fin nl1 L1).sl nl1 (Nt.fin nl1 L1).L) := hoo
  clear hoo hbb
  have c_S_0 := B_S.out.cell (j := 0) rfl
  have c_S_1 := B_S.out.cell (j := 1) rfl
  have c_S_2 := B_S.out.cell (j := 2) rfl
  have l_S := B_S.out.lt
  go_wp2_with fail
  obtain ⟨w26, hwd⟩ : ∃ W, W = w25.alloc (.cells #[.int .i64 c, .slice ha hk hc, .slice hu hy hz] 64) := ⟨_, rfl⟩
  have NB : Hid (Blk w26 w25.heap.size #[.int .i64 c, .slice ha hk hc, .slice hu hy hz] 64) := by rw [hwd]; exact Blk.new rfl
  have hbb : Below w25.heap.size w25 w26 := by rw [hwd]; exact (Below.refl _ _).alloc (Nat.le_refl _) _
  have yw26 : w25.heap.size + 1 ≤ w26.heap.size := by rw [hwd]; simp
  rw [← hwd]
  clear hwd
  clear c_S_0 c_S_1 c_S_2 l_S
  have zw26 : w25.heap.size ≤ w26.heap.size := hbb.size
  replace B_a0 : Hid (Blk w26 w.heap.size #[.int .i64 nodes0, .int .i64 slots0, .slice ao0 nf0 cp0] 24) := B_a0.out.old hbb
  replace B_S : Hid (Blk w26 w6.heap.size #[.int .i64 c, .slice sa sk sc, .slice su sy sz] 64) := B_S.out.old hbb
  replace B_x0 : Hid (Blk w26 w8.heap.size #[.int .i64 nodes0, .int .i64 slots0, .slice (some ⟨gx0, 0, none⟩) nf0 nf0] 37) := B_x0.out.old hbb
  replace B_G : Hid (Blk w26 w11.heap.size #[.int .i64 c, .slice ga gk gc, .slice gu gy gz] 64) := B_G.out.old hbb
  replace O_g : Hid (MkdU w10.heap.size w11.heap.size w26 c (.slice ga gk gc) (.slice gu gy gz) (Nt.fin nl1 L1).sl.length nl1 (Nt.fin nl1 L1).L r) := O_g.out.keep (keep_below hbb (by omega))
  replace O_h0 : Hid (OwB w22.heap.size w23.heap.size w26 gh0 nf0 F0) := O_h0.out.keep (keep_below hbb (by omega))
  replace O_h1 : Hid (OwLs w23.heap.size w24.heap.size w26 gh1 nl1 L1) := O_h1.out.keep (keep_below hbb (by omega))
  replace O_h : Hid (OwnU w24.heap.size w25.heap.size w26 c (.slice ha hk hc) (.slice hu hy hz) (Nt.fin nl1 L1).sl nl1 (Nt.fin nl1 L1).L) := O_h.out.keep (keep_below hbb (by omega))
  replace D_w : Hid (Below w.heap.size w w26) := D_w.out.trans (hbb.mono (by omega))
  replace D_w7 : Hid (Below w7.heap.size w7 w26) := D_w7.out.trans (hbb.mono (by omega))
  clear hbb
  have B_H := NB
  clear NB
  refine (eqZ_any O_h.out.rd (RS.out.later D_w7.out) HNM.out).mono ?_
  rintro e w27 ⟨rfl, hbb⟩
  have zw27 : w26.heap.size ≤ w27.heap.size := hbb.size
  replace B_a0 : Hid (Blk w27 w.heap.size #[.int .i64 nodes0, .int .i64 slots0, .slice ao0 nf0 cp0] 24) := B_a0.out.old hbb
  replace B_S : Hid (Blk w27 w6.heap.size #[.int .i64 c, .slice sa sk sc, .slice su sy sz] 64) := B_S.out.old hbb
  replace B_x0 : Hid (Blk w27 w8.heap.size #[.int .i64 nodes0, .int .i64 slots0, .slice (some ⟨gx0, 0, none⟩) nf0 nf0] 37) := B_x0.out.old hbb
  replace B_G : Hid (Blk w27 w11.heap.size #[.int .i64 c, .slice ga gk gc, .slice gu gy gz] 64) := B_G.out.old hbb
  replace B_H : Hid (Blk w27 w25.heap.size #[.int .i64 c, .slice ha hk hc, .slice hu hy hz] 64) := B_H.out.old hbb
  replace O_g : Hid (MkdU w10.heap.size w11.heap.size w27 c (.slice ga gk gc) (.slice gu gy gz) (Nt.fin nl1 L1).sl.length nl1 (Nt.fin nl1 L1).L r) := O_g.out.keep (keep_below hbb (by omega))
  replace O_h0 : Hid (OwB w22.heap.size w23.heap.size w27 gh0 nf0 F0) := O_h0.out.keep (keep_below hbb (by omega))
  replace O_h1 : Hid (OwLs w23.heap.size w24.heap.size w27 gh1 nl1 L1) := O_h1.out.keep (keep_below hbb (by omega))
  replace O_h : Hid (OwnU w24.heap.size w25.heap.size w27 c (.slice ha hk hc) (.slice hu hy hz) (Nt.fin nl1 L1).sl nl1 (Nt.fin nl1 L1).L) := O_h.out.keep (keep_below hbb (by omega))
  replace D_w : Hid (Below w.heap.size w w27) := D_w.out.trans (hbb.mono (by omega))
  replace D_w7 : Hid (Below w7.heap.size w7 w27) := D_w7.out.trans (hbb.mono (by omega))
  clear hbb
  have c_G_0 := B_G.out.cell (j := 0) rfl
  have c_G_1 := B_G.out.cell (j := 1) rfl
  have c_G_2 := B_G.out.cell (j := 2) rfl
  have l_G := B_G.out.lt
  go_wp2_with fail
  refine (heldU_any O_g.out HNM.out (by omega)).mono ?_
  rintro e w28 ⟨rfl, hbb⟩
  clear c_G_0 c_G_1 c_G_2 l_G
  have zw28 : w27.heap.size ≤ w28.heap.size := hbb.size
  replace B_a0 : Hid (Blk w28 w.heap.size #[.int .i64 nodes0, .int .i64 slots0, .slice ao0 nf0 cp0] 24) := B_a0.out.old hbb
  replace B_S : Hid (Blk w28 w6.heap.size #[.int .i64 c, .slice sa sk sc, .slice su sy sz] 64) := B_S.out.old hbb
  replace B_x0 : Hid (Blk w28 w8.heap.size #[.int .i64 nodes0, .int .i64 slots0, .slice (some ⟨gx0, 0, none⟩) nf0 nf0] 37) := B_x0.out.old hbb
  replace B_G : Hid (Blk w28 w11.heap.size #[.int .i64 c, .slice ga gk gc, .slice gu gy gz] 64) := B_G.out.old hbb
  replace B_H : Hid (Blk w28 w25.heap.size #[.int .i64 c, .slice ha hk hc, .slice hu hy hz] 64) := B_H.out.old hbb
  replace O_g : Hid (MkdU w10.heap.size w11.heap.size w28 c (.slice ga gk gc) (.slice gu gy gz) (Nt.fin nl1 L1).sl.length nl1 (Nt.fin nl1 L1).L r) := O_g.out.keep (keep_below hbb (by omega))
  replace O_h0 : Hid (OwB w22.heap.size w23.heap.size w28 gh0 nf0 F0) := O_h0.out.keep (keep_below hbb (by omega))
  replace O_h1 : Hid (OwLs w23.heap.size w24.heap.size w28 gh1 nl1 L1) := O_h1.out.keep (keep_below hbb (by omega))
  replace O_h : Hid (OwnU w24.heap.size w25.heap.size w28 c (.slice ha hk hc) (.slice hu hy hz) (Nt.fin nl1 L1).sl nl1 (Nt.fin nl1 L1).L) := O_h.out.keep (keep_below hbb (by omega))
  replace D_w : Hid (Below w.heap.size w w28) := D_w.out.trans (hbb.mono (by omega))
  replace D_w7 : Hid (Below w7.heap.size w7 w28) := D_w7.out.trans (hbb.mono (by omega))
  clear hbb
  go_wp2
  go_ret
  exact ⟨rfl, D_w.out⟩

set_option maxRecDepth 100000 in
theorem lifted (os : Os) (started : os.Started) (H : Type) (enc : TypeId × Value → H) :
    ReturnsInHanded {} Try.checked os 6 .any (Rows.fnExactTidyNetSpec.pre6 enc Try.prog Try.f6 Rows.fnExactTidyNetRow.domain false) (Rows.fnExactTidyNetSpec.post enc Try.prog Try.f6 false true false false) := by
  refine returnsInHanded_of_change (C := Try.checked) own started (by kernel_rfl) Try.func6
    (ChangeSpec.witness6 (enc := enc) (C := Try.checked) false ⟨#[], #[.agg #[.int .i64 0, .int .i64 0, .slice none 0 0], .slice none 0 0], []⟩ 8 (by kernel_rfl) (by kernel_rfl) (by kernel_rfl) (by kernel_rfl)) ?_
  intro W base args ds gs before hval0 hW hcnd _
  have hval : ∀ (j : Nat) t v, Try.f6.params[j]? = some t → args[j]? = some v → Value.okWide Try.prog W .any base t v := hval0
  have hW' := hW
  obtain ⟨p, q, hA0, hV, rfl, hfz, hnd⟩ := hW
  have hA : DataW.TrodAll enc Try.prog W 0 (fun _ => true) true Try.f6.params.toList args.toList ds p := hA0
  rw [Try.params6] at hA hval
  obtain ⟨v0, vs0, d0, ds0, p0, q0, hargs, rfl, rfl, h0, r0⟩ := trodAll_cons hA
  obtain ⟨v1, vs1, d1, ds1, p1, q1, rfl, rfl, rfl, h1, r1⟩ := trodAll_cons r0
  obtain ⟨rfl, rfl, rfl⟩ := trodAll_nil r1
  obtain rfl : args = #[v0, v1] := by cases args; simp_all
  obtain ⟨rfl, rfl⟩ := trodVars_none hV
  have k0 := h0
  have lt0 : ∀ x ∈ p0, x.block < W.heap.size := by obtain ⟨m, hm⟩ := k0; exact DataW.trod_lt m _ _ _ hm
  obtain ⟨nodes0, slots0, ao0, nf0, cp0, F0, rfl, R0, nb0, wl00, wl10, wl20, wl30⟩ := open_net (hval 0 24 v0 rfl rfl) h0
  have k1 := h1
  have lt1 : ∀ x ∈ p1, x.block < W.heap.size := by obtain ⟨m, hm⟩ := k1; exact DataW.trod_lt m _ _ _ hm
  obtain ⟨nl1, L1, R1, nb1, lb1⟩ := open_lits (hval 1 25 v1 rfl rfl) h1
  clear hA0 hval0
  refine (walk R0 nb0 wl00 wl10 wl20 wl30 R1 nb1 lb1).mono fun e W' ⟨he, bel⟩ => ?_
  subst he
  exact ⟨_, rfl, _, _, _, [], _, [], hW', trodAll_mk1 (shut_bool Try.underlying4 _), (trodAll_cons_mk (Below.trod laidOut (by kernel_rfl) (of_decide_eq_true (by kernel_rfl)) k0 bel lt0) (trodAll_cons_mk (Below.trod laidOut (by kernel_rfl) (of_decide_eq_true (by kernel_rfl)) k1 bel lt1) trodAll_mk0)), rfl, bel.frame _, fun h => by cases h⟩

theorem over : Rows.fnExactTidyNetRow.holds Try.pinned (OpenSpec.ofChange Rows.fnExactTidyNetSpec) :=
  OpenClaim.holds_of_wide 6 Try.f6 rfl rfl rfl rfl rfl rfl rfl ⟨rfl, rfl, rfl, rfl, rfl⟩ rfl rfl rfl rfl rfl (by kernel_rfl) Try.func6 (by kernel_rfl)
    (of_decide_eq_true (by kernel_rfl)) (by unfold Func.isWrapper; first | (rw [if_pos (by decide +kernel)]; kernel_rfl) | (rw [if_neg (by decide +kernel)]; exact ⟨rfl, rfl⟩))
    (fun os started H enc _ => lifted os started H enc)
end Go.Proofs.Ytinfbbbgfkaioaa.LawTidyNet
namespace Go.Proofs.Ytinfbbbgfkaioaa
theorem tidyNet_holds : Rows.FnExactTidyNetSaid := LawTidyNet.over
#print axioms tidyNet_holds
end Go.Proofs.Ytinfbbbgfkaioaa
