/- At every argument the program's Descend answers as the specification, where the law's own bound on the sizes does not answer first; what it answers owns its memory; nothing that was there is changed. -/
import Derived.Test.YtelejihgechmgaaDs
import Derived.Test.YtelejihgechmgaaDi
import Derived.Test.YtelejihgechmgaaDn
import Derived.Test.YtelejihgechmgaaAk
import Derived.Test.YtelejihgechmgaaOf
import Derived.Test.YtelejihgechmgaaRw
import Derived.Test.YtelejihgechmgaaLv
import Derived.Handy
import Derived.Deep.RegionHeld3
import Derived.Deep.DeepCutAuto
namespace Go.Proofs.Ytelejihgechmgaa.LawDescend
open Go.ChangeShapes Go.WideShapes Go.ChangeAt Go.RowKit Go.Joins
set_option linter.unusedVariables false

set_option maxHeartbeats 4000000 in
set_option maxRecDepth 20000 in
theorem walk {w : World} {v0 : Value} {n0 : Nat} {L0 : Nat → Li} (h0 : RdL w v0 n0 L0) (nb0 : n0 ≤ 9223372036854775807) (lb0 : LBd n0 L0) {v1 : Value} {n1 : Nat} {P1 : Nat → Int} (h1 : RdRow w v1 n1 P1) (nb1 : n1 ≤ 9223372036854775807) (n2 : Int) (na2 : -9223372036854775808 ≤ n2) (nz2 : n2 ≤ 9223372036854775807) (n3 : Int) (na3 : -9223372036854775808 ≤ n3) (nz3 : n3 ≤ 9223372036854775807) :
    Calls Try.prog 8 #[v0, v1, .int .i64 n2, .int .i64 n3] w fun e w' => e = .returned (.bool true) ∧ Below w.heap.size w w' := by
  obtain ⟨va0, vc0, ev0⟩ : ∃ ao cap, v0 = .slice ao n0 cap := h0.shape
  subst ev0
  have H0 : Hid (RdL w (.slice va0 n0 vc0) n0 L0) := h0
  have HB0 : Hid (LBd n0 L0) := lb0
  clear h0 lb0
  obtain ⟨va1, vc1, ev1⟩ : ∃ ao cap, v1 = .slice ao n1 cap := h1.shape
  subst ev1
  have H1 : Hid (RdRow w (.slice va1 n1 vc1) n1 P1) := h1
  clear h1
  have D_w : Hid (Below w.heap.size w w) := Below.refl _ _
  have zw : w.heap.size ≤ w.heap.size := Nat.le_refl _
  by_cases hlong1 : (1048576 : Int) < n1
  · go_enter Try.func8, Try.ntmps8
    go_wp2
    go_ret
    exact ⟨rfl, (Below.refl _ _)⟩
  have hm1 : (n1 : Int) ≤ 1048576 := by omega
  obtain ⟨c, ps, hcc⟩ : ∃ c ps, c = Mt.dcode L0 n0 n1 P1 n2 n3 ∧ ps = Mt.dpath L0 n0 n1 P1 n2 n3 := ⟨_, _, rfl, rfl⟩
  have HCC : Hid (c = Mt.dcode L0 n0 n1 P1 n2 n3 ∧ ps = Mt.dpath L0 n0 n1 P1 n2 n3) := hcc
  clear hcc
  go_enter Try.func8, Try.ntmps8
  go_wp2_with fail
  refine (szLits_any (H0.out.later D_w.out) 1048576 (by omega) (by omega) nb0 HB0.out).mono ?_
  rintro e w1 ⟨left0, rfl, ht, hbb⟩
  have zw1 : w.heap.size ≤ w1.heap.size := hbb.size
  replace D_w : Hid (Below w.heap.size w w1) := D_w.out.trans (hbb.mono (by omega))
  clear hbb
  have HT0 : Hid (ToldL n0 L0 1048576 left0) := ht
  clear ht
  by_cases hr0 : left0 < 0
  · go_wp2
    go_ret
    exact ⟨rfl, D_w.out⟩
  have hs0 := ToldL.ok HT0.out hr0
  have hs0b : left0 ≤ 1048576 := ToldL.le HT0.out hr0
  have hm0 : (n0 : Int) ≤ 1048576 := by omega
  have HS0 : Hid (LFew n0 L0) := ⟨by omega, by have := hs0; omega⟩
  clear HT0
  have HNM : Hid ((c = 0 → ps.length * n1 + (mers L0 n0 n1 ps).length + ps.length ≤ 1000000) ∧ cnt c ps.length ≤ 1048576 ∧ cnt c (mers L0 n0 n1 ps).length ≤ 1048576) := dlen_b HCC.out.1 HCC.out.2
  go_wp2_with fail
  refine (toLits_any (H0.out.later D_w.out) HS0.out).mono ?_
  rintro e w2 ⟨gc0, rfl, hmo, hbb⟩
  have zw2 : w1.heap.size ≤ w2.heap.size := hbb.size
  replace D_w : Hid (Below w.heap.size w w2) := D_w.out.trans (hbb.mono (by omega))
  clear hbb
  have O_c0 : Hid (OwLs w1.heap.size w2.heap.size w2 gc0 n0 L0) := hmo
  clear hmo
  go_wp2_with fail
  refine (toS_any (H1.out.later D_w.out) (by omega)).mono ?_
  rintro e w3 ⟨rfl, hmo, hbb, hzz⟩
  have zw3 : w2.heap.size ≤ w3.heap.size := hbb.size
  replace O_c0 : Hid (OwLs w1.heap.size w2.heap.size w3 gc0 n0 L0) := O_c0.out.keep (keep_below hbb (by omega))
  replace D_w : Hid (Below w.heap.size w w3) := D_w.out.trans (hbb.mono (by omega))
  clear hbb
  have O_c1 : Hid (OwF w2.heap.size w3.heap.size w3 w2.heap.size n1 P1) := ⟨Nat.le_refl _, by omega, hmo⟩
  clear hmo hzz
  go_wp2_with fail
  refine (sDesc_any HCC.out.1 HCC.out.2 O_c0.out.rd O_c1.out.rd (by omega) (by omega)).mono ?_
  rintro e w4 ⟨pv, mv, rfl, hoo, hbb⟩
  obtain ⟨sa, sk, sc, sm, sj, se, eps, ems⟩ := OutD.shape hoo.rd
  subst eps ems
  have RS0 : Hid (OutD w4 c (.slice sa sk sc) (.slice sm sj se) n1 ps (mers L0 n0 n1 ps)) := hoo.rd
  clear hoo
  have zw4 : w3.heap.size ≤ w4.heap.size := hbb.size
  replace O_c0 : Hid (OwLs w1.heap.size w2.heap.size w4 gc0 n0 L0) := O_c0.out.keep (keep_below hbb (by omega))
  replace O_c1 : Hid (OwF w2.heap.size w3.heap.size w4 w2.heap.size n1 P1) := O_c1.out.keep (keep_below hbb (by omega))
  replace D_w : Hid (Below w.heap.size w w4) := D_w.out.trans (hbb.mono (by omega))
  clear hbb
  clear O_c0
  clear O_c1
  go_wp2_with fail
  obtain ⟨w5, hwd⟩ : ∃ W, W = w4.alloc (.cells #[.int .i64 c, .slice sa sk sc, .slice sm sj se] 55) := ⟨_, rfl⟩
  have NB : Hid (Blk w5 w4.heap.size #[.int .i64 c, .slice sa sk sc, .slice sm sj se] 55) := by rw [hwd]; exact Blk.new rfl
  have hbb : Below w4.heap.size w4 w5 := by rw [hwd]; exact (Below.refl _ _).alloc (Nat.le_refl _) _
  have yw5 : w4.heap.size + 1 ≤ w5.heap.size := by rw [hwd]; simp
  have HWD : Hid (w5 = w4.alloc (.cells #[.int .i64 c, .slice sa sk sc, .slice sm sj se] 55)) := hwd
  rw [← hwd]
  clear hwd
  have zw5 : w4.heap.size ≤ w5.heap.size := hbb.size
  replace D_w : Hid (Below w.heap.size w w5) := D_w.out.trans (hbb.mono (by omega))
  clear hbb
  have B_S := NB
  clear NB
  have RS : Hid (OutD w5 c (.slice sa sk sc) (.slice sm sj se) n1 ps (mers L0 n0 n1 ps)) := RS0.out.later (show Below w4.heap.size w4 w5 from by rw [HWD.out]; exact (Below.refl _ _).alloc (Nat.le_refl _) _)
  clear RS0 HWD
  have D_w5 : Hid (Below w5.heap.size w5 w5) := Below.refl _ _
  refine (toLits_any (H0.out.later D_w.out) HS0.out).mono ?_
  rintro e w6 ⟨gx0, rfl, hmo, hbb⟩
  have zw6 : w5.heap.size ≤ w6.heap.size := hbb.size
  replace B_S : Hid (Blk w6 w4.heap.size #[.int .i64 c, .slice sa sk sc, .slice sm sj se] 55) := B_S.out.old hbb
  replace D_w : Hid (Below w.heap.size w w6) := D_w.out.trans (hbb.mono (by omega))
  replace D_w5 : Hid (Below w5.heap.size w5 w6) := D_w5.out.trans (hbb.mono (by omega))
  clear hbb
  have O_x0 : Hid (OwLs w5.heap.size w6.heap.size w6 gx0 n0 L0) := hmo
  clear hmo
  go_wp2_with fail
  refine (toS_any (H1.out.later D_w.out) (by omega)).mono ?_
  rintro e w7 ⟨rfl, hmo, hbb, hzz⟩
  have zw7 : w6.heap.size ≤ w7.heap.size := hbb.size
  replace B_S : Hid (Blk w7 w4.heap.size #[.int .i64 c, .slice sa sk sc, .slice sm sj se] 55) := B_S.out.old hbb
  replace O_x0 : Hid (OwLs w5.heap.size w6.heap.size w7 gx0 n0 L0) := O_x0.out.keep (keep_below hbb (by omega))
  replace D_w : Hid (Below w.heap.size w w7) := D_w.out.trans (hbb.mono (by omega))
  replace D_w5 : Hid (Below w5.heap.size w5 w7) := D_w5.out.trans (hbb.mono (by omega))
  clear hbb
  have O_x1 : Hid (OwF w6.heap.size w7.heap.size w7 w6.heap.size n1 P1) := ⟨Nat.le_refl _, by omega, hmo⟩
  clear hmo hzz
  go_wp2_with fail
  refine (iDesc_any HCC.out.1 HCC.out.2 O_x0.out.rd O_x1.out.rd (by omega) (by omega)).mono ?_
  rintro e w8 ⟨pv, mv, rfl, hoo, hbb⟩
  obtain ⟨ga, gk, gc, gm, gj, ge, epg, emg⟩ := OutD.shape hoo.rd
  subst epg emg
  have zw8 : w7.heap.size ≤ w8.heap.size := hbb.size
  replace B_S : Hid (Blk w8 w4.heap.size #[.int .i64 c, .slice sa sk sc, .slice sm sj se] 55) := B_S.out.old hbb
  replace O_x0 : Hid (OwLs w5.heap.size w6.heap.size w8 gx0 n0 L0) := O_x0.out.keep (keep_below hbb (by omega))
  replace O_x1 : Hid (OwF w6.heap.size w7.heap.size w8 w6.heap.size n1 P1) := O_x1.out.keep (keep_below hbb (by omega))
  replace D_w : Hid (Below w.heap.size w w8) := D_w.out.trans (hbb.mono (by omega))
  replace D_w5 : Hid (Below w5.heap.size w5 w8) := D_w5.out.trans (hbb.mono (by omega))
  have O_g : Hid (OwD w7.heap.size w8.heap.size w8 c (.slice ga gk gc) (.slice gm gj ge) n1 ps (mers L0 n0 n1 ps)) := hoo
  clear hoo hbb
  have c_S_0 := B_S.out.cell (j := 0) rfl
  have c_S_1 := B_S.out.cell (j := 1) rfl
  have c_S_2 := B_S.out.cell (j := 2) rfl
  have l_S := B_S.out.lt
  go_wp2_with fail
  obtain ⟨w9, hwd⟩ : ∃ W, W = w8.alloc (.cells #[.int .i64 c, .slice ga gk gc, .slice gm gj ge] 55) := ⟨_, rfl⟩
  have NB : Hid (Blk w9 w8.heap.size #[.int .i64 c, .slice ga gk gc, .slice gm gj ge] 55) := by rw [hwd]; exact Blk.new rfl
  have hbb : Below w8.heap.size w8 w9 := by rw [hwd]; exact (Below.refl _ _).alloc (Nat.le_refl _) _
  have yw9 : w8.heap.size + 1 ≤ w9.heap.size := by rw [hwd]; simp
  rw [← hwd]
  clear hwd
  clear c_S_0 c_S_1 c_S_2 l_S
  have zw9 : w8.heap.size ≤ w9.heap.size := hbb.size
  replace B_S : Hid (Blk w9 w4.heap.size #[.int .i64 c, .slice sa sk sc, .slice sm sj se] 55) := B_S.out.old hbb
  replace O_x0 : Hid (OwLs w5.heap.size w6.heap.size w9 gx0 n0 L0) := O_x0.out.keep (keep_below hbb (by omega))
  replace O_x1 : Hid (OwF w6.heap.size w7.heap.size w9 w6.heap.size n1 P1) := O_x1.out.keep (keep_below hbb (by omega))
  replace O_g : Hid (OwD w7.heap.size w8.heap.size w9 c (.slice ga gk gc) (.slice gm gj ge) n1 ps (mers L0 n0 n1 ps)) := O_g.out.keep (keep_below hbb (by omega))
  replace D_w : Hid (Below w.heap.size w w9) := D_w.out.trans (hbb.mono (by omega))
  replace D_w5 : Hid (Below w5.heap.size w5 w9) := D_w5.out.trans (hbb.mono (by omega))
  clear hbb
  have B_G := NB
  clear NB
  refine (eqD_any O_g.out.rd (RS.out.later D_w5.out) HNM.out.2.1 (by omega) HNM.out.2.2).mono ?_
  rintro e w10 ⟨rfl, hbb⟩
  have zw10 : w9.heap.size ≤ w10.heap.size := hbb.size
  replace B_S : Hid (Blk w10 w4.heap.size #[.int .i64 c, .slice sa sk sc, .slice sm sj se] 55) := B_S.out.old hbb
  replace B_G : Hid (Blk w10 w8.heap.size #[.int .i64 c, .slice ga gk gc, .slice gm gj ge] 55) := B_G.out.old hbb
  replace O_x0 : Hid (OwLs w5.heap.size w6.heap.size w10 gx0 n0 L0) := O_x0.out.keep (keep_below hbb (by omega))
  replace O_x1 : Hid (OwF w6.heap.size w7.heap.size w10 w6.heap.size n1 P1) := O_x1.out.keep (keep_below hbb (by omega))
  replace O_g : Hid (OwD w7.heap.size w8.heap.size w10 c (.slice ga gk gc) (.slice gm gj ge) n1 ps (mers L0 n0 n1 ps)) := O_g.out.keep (keep_below hbb (by omega))
  replace D_w : Hid (Below w.heap.size w w10) := D_w.out.trans (hbb.mono (by omega))
  replace D_w5 : Hid (Below w5.heap.size w5 w10) := D_w5.out.trans (hbb.mono (by omega))
  clear hbb
  go_wp2_with fail
  refine (toLits_any (H0.out.later D_w.out) HS0.out).mono ?_
  rintro e w11 ⟨gq, rfl, hmo, hbb⟩
  have zw11 : w10.heap.size ≤ w11.heap.size := hbb.size
  replace B_S : Hid (Blk w11 w4.heap.size #[.int .i64 c, .slice sa sk sc, .slice sm sj se] 55) := B_S.out.old hbb
  replace B_G : Hid (Blk w11 w8.heap.size #[.int .i64 c, .slice ga gk gc, .slice gm gj ge] 55) := B_G.out.old hbb
  replace O_x0 : Hid (OwLs w5.heap.size w6.heap.size w11 gx0 n0 L0) := O_x0.out.keep (keep_below hbb (by omega))
  replace O_x1 : Hid (OwF w6.heap.size w7.heap.size w11 w6.heap.size n1 P1) := O_x1.out.keep (keep_below hbb (by omega))
  replace O_g : Hid (OwD w7.heap.size w8.heap.size w11 c (.slice ga gk gc) (.slice gm gj ge) n1 ps (mers L0 n0 n1 ps)) := O_g.out.keep (keep_below hbb (by omega))
  replace D_w : Hid (Below w.heap.size w w11) := D_w.out.trans (hbb.mono (by omega))
  replace D_w5 : Hid (Below w5.heap.size w5 w11) := D_w5.out.trans (hbb.mono (by omega))
  clear hbb
  have O_q : Hid (OwLs w10.heap.size w11.heap.size w11 gq n0 L0) := hmo
  clear hmo
  go_wp2_with fail
  refine (eqLits_any O_x0.out.rd O_q.out.rd HS0.out).mono ?_
  rintro e w12 ⟨rfl, hbb⟩
  clear O_q
  have zw12 : w11.heap.size ≤ w12.heap.size := hbb.size
  replace B_S : Hid (Blk w12 w4.heap.size #[.int .i64 c, .slice sa sk sc, .slice sm sj se] 55) := B_S.out.old hbb
  replace B_G : Hid (Blk w12 w8.heap.size #[.int .i64 c, .slice ga gk gc, .slice gm gj ge] 55) := B_G.out.old hbb
  replace O_x0 : Hid (OwLs w5.heap.size w6.heap.size w12 gx0 n0 L0) := O_x0.out.keep (keep_below hbb (by omega))
  replace O_x1 : Hid (OwF w6.heap.size w7.heap.size w12 w6.heap.size n1 P1) := O_x1.out.keep (keep_below hbb (by omega))
  replace O_g : Hid (OwD w7.heap.size w8.heap.size w12 c (.slice ga gk gc) (.slice gm gj ge) n1 ps (mers L0 n0 n1 ps)) := O_g.out.keep (keep_below hbb (by omega))
  replace D_w : Hid (Below w.heap.size w w12) := D_w.out.trans (hbb.mono (by omega))
  replace D_w5 : Hid (Below w5.heap.size w5 w12) := D_w5.out.trans (hbb.mono (by omega))
  clear hbb
  go_wp2_with fail
  refine (toS_any (H1.out.later D_w.out) (by omega)).mono ?_
  rintro e w13 ⟨rfl, hmo, hbb, hzz⟩
  have zw13 : w12.heap.size ≤ w13.heap.size := hbb.size
  replace B_S : Hid (Blk w13 w4.heap.size #[.int .i64 c, .slice sa sk sc, .slice sm sj se] 55) := B_S.out.old hbb
  replace B_G : Hid (Blk w13 w8.heap.size #[.int .i64 c, .slice ga gk gc, .slice gm gj ge] 55) := B_G.out.old hbb
  replace O_x0 : Hid (OwLs w5.heap.size w6.heap.size w13 gx0 n0 L0) := O_x0.out.keep (keep_below hbb (by omega))
  replace O_x1 : Hid (OwF w6.heap.size w7.heap.size w13 w6.heap.size n1 P1) := O_x1.out.keep (keep_below hbb (by omega))
  replace O_g : Hid (OwD w7.heap.size w8.heap.size w13 c (.slice ga gk gc) (.slice gm gj ge) n1 ps (mers L0 n0 n1 ps)) := O_g.out.keep (keep_below hbb (by omega))
  replace D_w : Hid (Below w.heap.size w w13) := D_w.out.trans (hbb.mono (by omega))
  replace D_w5 : Hid (Below w5.heap.size w5 w13) := D_w5.out.trans (hbb.mono (by omega))
  clear hbb
  have O_q : Hid (OwF w12.heap.size w13.heap.size w13 w12.heap.size n1 P1) := ⟨Nat.le_refl _, by omega, hmo⟩
  clear hmo hzz
  go_wp2_with fail
  refine (eqS_any O_x1.out.rd O_q.out.rd (by omega)).mono ?_
  rintro e w14 ⟨rfl, q, hqq⟩
  have hbb : Below w13.heap.size w13 w14 := by rw [hqq]; exact below_drewN (Below.refl _ _) q
  clear hqq
  clear O_q
  have zw14 : w13.heap.size ≤ w14.heap.size := hbb.size
  replace B_S : Hid (Blk w14 w4.heap.size #[.int .i64 c, .slice sa sk sc, .slice sm sj se] 55) := B_S.out.old hbb
  replace B_G : Hid (Blk w14 w8.heap.size #[.int .i64 c, .slice ga gk gc, .slice gm gj ge] 55) := B_G.out.old hbb
  replace O_x0 : Hid (OwLs w5.heap.size w6.heap.size w14 gx0 n0 L0) := O_x0.out.keep (keep_below hbb (by omega))
  replace O_x1 : Hid (OwF w6.heap.size w7.heap.size w14 w6.heap.size n1 P1) := O_x1.out.keep (keep_below hbb (by omega))
  replace O_g : Hid (OwD w7.heap.size w8.heap.size w14 c (.slice ga gk gc) (.slice gm gj ge) n1 ps (mers L0 n0 n1 ps)) := O_g.out.keep (keep_below hbb (by omega))
  replace D_w : Hid (Below w.heap.size w w14) := D_w.out.trans (hbb.mono (by omega))
  replace D_w5 : Hid (Below w5.heap.size w5 w14) := D_w5.out.trans (hbb.mono (by omega))
  clear hbb
  go_wp2_with fail
  refine (markAims_any 1 O_x0.out (by omega) (by omega) HS0.out).mono ?_
  rintro e w15 ⟨rfl, hww⟩
  have zw15 : w14.heap.size ≤ w15.heap.size := hww.below.size
  replace B_S : Hid (Blk w15 w4.heap.size #[.int .i64 c, .slice sa sk sc, .slice sm sj se] 55) := B_S.out.within hww (by omega)
  replace B_G : Hid (Blk w15 w8.heap.size #[.int .i64 c, .slice ga gk gc, .slice gm gj ge] 55) := B_G.out.within hww (by omega)
  replace O_x1 : Hid (OwF w6.heap.size w7.heap.size w15 w6.heap.size n1 P1) := O_x1.out.keep (keep_apart hww (by omega) (by omega))
  replace O_g : Hid (OwD w7.heap.size w8.heap.size w15 c (.slice ga gk gc) (.slice gm gj ge) n1 ps (mers L0 n0 n1 ps)) := O_g.out.keep (keep_apart hww (by omega) (by omega))
  replace D_w : Hid (Below w.heap.size w w15) := D_w.out.trans (hww.below.mono (by omega))
  replace D_w5 : Hid (Below w5.heap.size w5 w15) := D_w5.out.trans (hww.below.mono (by omega))
  clear hww O_x0
  obtain ⟨k1, hk⟩ : ∃ k : Int, k = mAs 1 L0 n0 := ⟨_, rfl⟩
  have hk1a : 0 ≤ k1 := by rw [hk]; have := mAs_lo 1 L0 n0; have := mAs_hi 1 HS0.out; omega
  have hk1b : k1 ≤ 1 + 8000000 := by rw [hk]; have := mAs_lo 1 L0 n0; have := mAs_hi 1 HS0.out; omega
  rw [← hk]
  clear hk
  go_wp2_with fail
  refine (markF_any k1 O_x1.out (by omega) (by omega) (by omega)).mono ?_
  rintro e w16 ⟨rfl, hww⟩
  have zw16 : w15.heap.size ≤ w16.heap.size := hww.below.size
  replace B_S : Hid (Blk w16 w4.heap.size #[.int .i64 c, .slice sa sk sc, .slice sm sj se] 55) := B_S.out.within hww (by omega)
  replace B_G : Hid (Blk w16 w8.heap.size #[.int .i64 c, .slice ga gk gc, .slice gm gj ge] 55) := B_G.out.within hww (by omega)
  replace O_g : Hid (OwD w7.heap.size w8.heap.size w16 c (.slice ga gk gc) (.slice gm gj ge) n1 ps (mers L0 n0 n1 ps)) := O_g.out.keep (keep_apart hww (by omega) (by omega))
  replace D_w : Hid (Below w.heap.size w w16) := D_w.out.trans (hww.below.mono (by omega))
  replace D_w5 : Hid (Below w5.heap.size w5 w16) := D_w5.out.trans (hww.below.mono (by omega))
  clear hww O_x1
  obtain ⟨k2, hk⟩ : ∃ k : Int, k = k1 + (n1 : Int) := ⟨_, rfl⟩
  have hk2a : 0 ≤ k2 := by rw [hk]; omega
  have hk2b : k2 ≤ k1 + 8000000 := by rw [hk]; omega
  rw [← hk]
  clear hk
  have c_G_0 := B_G.out.cell (j := 0) rfl
  have c_G_1 := B_G.out.cell (j := 1) rfl
  have c_G_2 := B_G.out.cell (j := 2) rfl
  have l_G := B_G.out.lt
  have c_S_0 := B_S.out.cell (j := 0) rfl
  have c_S_1 := B_S.out.cell (j := 1) rfl
  have c_S_2 := B_S.out.cell (j := 2) rfl
  have l_S := B_S.out.lt
  go_wp2_with fail
  refine (eqD_any O_g.out.rd (RS.out.later D_w5.out) HNM.out.2.1 (by omega) HNM.out.2.2).mono ?_
  rintro e w17 ⟨rfl, hbb⟩
  clear c_G_0 c_G_1 c_G_2 l_G c_S_0 c_S_1 c_S_2 l_S
  have zw17 : w16.heap.size ≤ w17.heap.size := hbb.size
  replace B_S : Hid (Blk w17 w4.heap.size #[.int .i64 c, .slice sa sk sc, .slice sm sj se] 55) := B_S.out.old hbb
  replace B_G : Hid (Blk w17 w8.heap.size #[.int .i64 c, .slice ga gk gc, .slice gm gj ge] 55) := B_G.out.old hbb
  replace O_g : Hid (OwD w7.heap.size w8.heap.size w17 c (.slice ga gk gc) (.slice gm gj ge) n1 ps (mers L0 n0 n1 ps)) := O_g.out.keep (keep_below hbb (by omega))
  replace D_w : Hid (Below w.heap.size w w17) := D_w.out.trans (hbb.mono (by omega))
  replace D_w5 : Hid (Below w5.heap.size w5 w17) := D_w5.out.trans (hbb.mono (by omega))
  clear hbb
  have c_G_0 := B_G.out.cell (j := 0) rfl
  have c_G_1 := B_G.out.cell (j := 1) rfl
  have c_G_2 := B_G.out.cell (j := 2) rfl
  have l_G := B_G.out.lt
  go_wp2_with fail
  refine (markD_any O_g.out HNM.out.1 (by omega) (by omega)).mono ?_
  rintro e w18 ⟨r, rfl, hmk, hww⟩
  clear c_G_0 c_G_1 c_G_2 l_G
  have hr0 : 0 ≤ r := hmk.pos
  have zw18 : w17.heap.size ≤ w18.heap.size := hww.below.size
  replace B_S : Hid (Blk w18 w4.heap.size #[.int .i64 c, .slice sa sk sc, .slice sm sj se] 55) := B_S.out.within hww (by omega)
  replace B_G : Hid (Blk w18 w8.heap.size #[.int .i64 c, .slice ga gk gc, .slice gm gj ge] 55) := B_G.out.within hww (by omega)
  replace D_w : Hid (Below w.heap.size w w18) := D_w.out.trans (hww.below.mono (by omega))
  replace D_w5 : Hid (Below w5.heap.size w5 w18) := D_w5.out.trans (hww.below.mono (by omega))
  replace O_g : Hid (MkdD w7.heap.size w8.heap.size w18 c (.slice ga gk gc) (.slice gm gj ge) n1 ps.length (mers L0 n0 n1 ps).length r) := hmk
  clear hmk hww
  have c_G_0 := B_G.out.cell (j := 0) rfl
  have c_G_1 := B_G.out.cell (j := 1) rfl
  have c_G_2 := B_G.out.cell (j := 2) rfl
  have l_G := B_G.out.lt
  go_wp2_with fail
  refine (heldD_any O_g.out HNM.out.1 (by omega)).mono ?_
  rintro e w19 ⟨rfl, hbb⟩
  clear c_G_0 c_G_1 c_G_2 l_G
  have zw19 : w18.heap.size ≤ w19.heap.size := hbb.size
  replace B_S : Hid (Blk w19 w4.heap.size #[.int .i64 c, .slice sa sk sc, .slice sm sj se] 55) := B_S.out.old hbb
  replace B_G : Hid (Blk w19 w8.heap.size #[.int .i64 c, .slice ga gk gc, .slice gm gj ge] 55) := B_G.out.old hbb
  replace O_g : Hid (MkdD w7.heap.size w8.heap.size w19 c (.slice ga gk gc) (.slice gm gj ge) n1 ps.length (mers L0 n0 n1 ps).length r) := O_g.out.keep (keep_below hbb (by omega))
  replace D_w : Hid (Below w.heap.size w w19) := D_w.out.trans (hbb.mono (by omega))
  replace D_w5 : Hid (Below w5.heap.size w5 w19) := D_w5.out.trans (hbb.mono (by omega))
  clear hbb
  go_wp2_with fail
  refine (toLits_any (H0.out.later D_w.out) HS0.out).mono ?_
  rintro e w20 ⟨gh0, rfl, hmo, hbb⟩
  have zw20 : w19.heap.size ≤ w20.heap.size := hbb.size
  replace B_S : Hid (Blk w20 w4.heap.size #[.int .i64 c, .slice sa sk sc, .slice sm sj se] 55) := B_S.out.old hbb
  replace B_G : Hid (Blk w20 w8.heap.size #[.int .i64 c, .slice ga gk gc, .slice gm gj ge] 55) := B_G.out.old hbb
  replace O_g : Hid (MkdD w7.heap.size w8.heap.size w20 c (.slice ga gk gc) (.slice gm gj ge) n1 ps.length (mers L0 n0 n1 ps).length r) := O_g.out.keep (keep_below hbb (by omega))
  replace D_w : Hid (Below w.heap.size w w20) := D_w.out.trans (hbb.mono (by omega))
  replace D_w5 : Hid (Below w5.heap.size w5 w20) := D_w5.out.trans (hbb.mono (by omega))
  clear hbb
  have O_h0 : Hid (OwLs w19.heap.size w20.heap.size w20 gh0 n0 L0) := hmo
  clear hmo
  go_wp2_with fail
  refine (toS_any (H1.out.later D_w.out) (by omega)).mono ?_
  rintro e w21 ⟨rfl, hmo, hbb, hzz⟩
  have zw21 : w20.heap.size ≤ w21.heap.size := hbb.size
  replace B_S : Hid (Blk w21 w4.heap.size #[.int .i64 c, .slice sa sk sc, .slice sm sj se] 55) := B_S.out.old hbb
  replace B_G : Hid (Blk w21 w8.heap.size #[.int .i64 c, .slice ga gk gc, .slice gm gj ge] 55) := B_G.out.old hbb
  replace O_g : Hid (MkdD w7.heap.size w8.heap.size w21 c (.slice ga gk gc) (.slice gm gj ge) n1 ps.length (mers L0 n0 n1 ps).length r) := O_g.out.keep (keep_below hbb (by omega))
  replace O_h0 : Hid (OwLs w19.heap.size w20.heap.size w21 gh0 n0 L0) := O_h0.out.keep (keep_below hbb (by omega))
  replace D_w : Hid (Below w.heap.size w w21) := D_w.out.trans (hbb.mono (by omega))
  replace D_w5 : Hid (Below w5.heap.size w5 w21) := D_w5.out.trans (hbb.mono (by omega))
  clear hbb
  have O_h1 : Hid (OwF w20.heap.size w21.heap.size w21 w20.heap.size n1 P1) := ⟨Nat.le_refl _, by omega, hmo⟩
  clear hmo hzz
  go_wp2_with fail
  refine (iDesc_any HCC.out.1 HCC.out.2 O_h0.out.rd O_h1.out.rd (by omega) (by omega)).mono ?_
  rintro e w22 ⟨pv, mv, rfl, hoo, hbb⟩
  obtain ⟨ha, hk, hc, hm, hj, he, eph, emh⟩ := OutD.shape hoo.rd
  subst eph emh
  have zw22 : w21.heap.size ≤ w22.heap.size := hbb.size
  replace B_S : Hid (Blk w22 w4.heap.size #[.int .i64 c, .slice sa sk sc, .slice sm sj se] 55) := B_S.out.old hbb
  replace B_G : Hid (Blk w22 w8.heap.size #[.int .i64 c, .slice ga gk gc, .slice gm gj ge] 55) := B_G.out.old hbb
  replace O_g : Hid (MkdD w7.heap.size w8.heap.size w22 c (.slice ga gk gc) (.slice gm gj ge) n1 ps.length (mers L0 n0 n1 ps).length r) := O_g.out.keep (keep_below hbb (by omega))
  replace O_h0 : Hid (OwLs w19.heap.size w20.heap.size w22 gh0 n0 L0) := O_h0.out.keep (keep_below hbb (by omega))
  replace O_h1 : Hid (OwF w20.heap.size w21.heap.size w22 w20.heap.size n1 P1) := O_h1.out.keep (keep_below hbb (by omega))
  replace D_w : Hid (Below w.heap.size w w22) := D_w.out.trans (hbb.mono (by omega))
  replace D_w5 : Hid (Below w5.heap.size w5 w22) := D_w5.out.trans (hbb.mono (by omega))
  have O_h : Hid (OwD w21.heap.size w22.heap.size w22 c (.slice ha hk hc) (.slice hm hj he) n1 ps (mers L0 n0 n1 ps)) := hoo
  clear hoo hbb
  have c_S_0 := B_S.out.cell (j := 0) rfl
  have c_S_1 := B_S.out.cell (j := 1) rfl
  have c_S_2 := B_S.out.cell (j := 2) rfl
  have l_S := B_S.out.lt
  go_wp2_with fail
  obtain ⟨w23, hwd⟩ : ∃ W, W = w22.alloc (.cells #[.int .i64 c, .slice ha hk hc, .slice hm hj he] 55) := ⟨_, rfl⟩
  have NB : Hid (Blk w23 w22.heap.size #[.int .i64 c, .slice ha hk hc, .slice hm hj he] 55) := by rw [hwd]; exact Blk.new rfl
  have hbb : Below w22.heap.size w22 w23 := by rw [hwd]; exact (Below.refl _ _).alloc (Nat.le_refl _) _
  have yw23 : w22.heap.size + 1 ≤ w23.heap.size := by rw [hwd]; simp
  rw [← hwd]
  clear hwd
  clear c_S_0 c_S_1 c_S_2 l_S
  have zw23 : w22.heap.size ≤ w23.heap.size := hbb.size
  replace B_S : Hid (Blk w23 w4.heap.size #[.int .i64 c, .slice sa sk sc, .slice sm sj se] 55) := B_S.out.old hbb
  replace B_G : Hid (Blk w23 w8.heap.size #[.int .i64 c, .slice ga gk gc, .slice gm gj ge] 55) := B_G.out.old hbb
  replace O_g : Hid (MkdD w7.heap.size w8.heap.size w23 c (.slice ga gk gc) (.slice gm gj ge) n1 ps.length (mers L0 n0 n1 ps).length r) := O_g.out.keep (keep_below hbb (by omega))
  replace O_h0 : Hid (OwLs w19.heap.size w20.heap.size w23 gh0 n0 L0) := O_h0.out.keep (keep_below hbb (by omega))
  replace O_h1 : Hid (OwF w20.heap.size w21.heap.size w23 w20.heap.size n1 P1) := O_h1.out.keep (keep_below hbb (by omega))
  replace O_h : Hid (OwD w21.heap.size w22.heap.size w23 c (.slice ha hk hc) (.slice hm hj he) n1 ps (mers L0 n0 n1 ps)) := O_h.out.keep (keep_below hbb (by omega))
  replace D_w : Hid (Below w.heap.size w w23) := D_w.out.trans (hbb.mono (by omega))
  replace D_w5 : Hid (Below w5.heap.size w5 w23) := D_w5.out.trans (hbb.mono (by omega))
  clear hbb
  have B_H := NB
  clear NB
  refine (eqD_any O_h.out.rd (RS.out.later D_w5.out) HNM.out.2.1 (by omega) HNM.out.2.2).mono ?_
  rintro e w24 ⟨rfl, hbb⟩
  have zw24 : w23.heap.size ≤ w24.heap.size := hbb.size
  replace B_S : Hid (Blk w24 w4.heap.size #[.int .i64 c, .slice sa sk sc, .slice sm sj se] 55) := B_S.out.old hbb
  replace B_G : Hid (Blk w24 w8.heap.size #[.int .i64 c, .slice ga gk gc, .slice gm gj ge] 55) := B_G.out.old hbb
  replace B_H : Hid (Blk w24 w22.heap.size #[.int .i64 c, .slice ha hk hc, .slice hm hj he] 55) := B_H.out.old hbb
  replace O_g : Hid (MkdD w7.heap.size w8.heap.size w24 c (.slice ga gk gc) (.slice gm gj ge) n1 ps.length (mers L0 n0 n1 ps).length r) := O_g.out.keep (keep_below hbb (by omega))
  replace O_h0 : Hid (OwLs w19.heap.size w20.heap.size w24 gh0 n0 L0) := O_h0.out.keep (keep_below hbb (by omega))
  replace O_h1 : Hid (OwF w20.heap.size w21.heap.size w24 w20.heap.size n1 P1) := O_h1.out.keep (keep_below hbb (by omega))
  replace O_h : Hid (OwD w21.heap.size w22.heap.size w24 c (.slice ha hk hc) (.slice hm hj he) n1 ps (mers L0 n0 n1 ps)) := O_h.out.keep (keep_below hbb (by omega))
  replace D_w : Hid (Below w.heap.size w w24) := D_w.out.trans (hbb.mono (by omega))
  replace D_w5 : Hid (Below w5.heap.size w5 w24) := D_w5.out.trans (hbb.mono (by omega))
  clear hbb
  have c_G_0 := B_G.out.cell (j := 0) rfl
  have c_G_1 := B_G.out.cell (j := 1) rfl
  have c_G_2 := B_G.out.cell (j := 2) rfl
  have l_G := B_G.out.lt
  go_wp2_with fail
  refine (heldD_any O_g.out HNM.out.1 (by omega)).mono ?_
  rintro e w25 ⟨rfl, hbb⟩
  clear c_G_0 c_G_1 c_G_2 l_G
  have zw25 : w24.heap.size ≤ w25.heap.size := hbb.size
  replace B_S : Hid (Blk w25 w4.heap.size #[.int .i64 c, .slice sa sk sc, .slice sm sj se] 55) := B_S.out.old hbb
  replace B_G : Hid (Blk w25 w8.heap.size #[.int .i64 c, .slice ga gk gc, .slice gm gj ge] 55) := B_G.out.old hbb
  replace B_H : Hid (Blk w25 w22.heap.size #[.int .i64 c, .slice ha hk hc, .slice hm hj he] 55) := B_H.out.old hbb
  replace O_g : Hid (MkdD w7.heap.size w8.heap.size w25 c (.slice ga gk gc) (.slice gm gj ge) n1 ps.length (mers L0 n0 n1 ps).length r) := O_g.out.keep (keep_below hbb (by omega))
  replace O_h0 : Hid (OwLs w19.heap.size w20.heap.size w25 gh0 n0 L0) := O_h0.out.keep (keep_below hbb (by omega))
  replace O_h1 : Hid (OwF w20.heap.size w21.heap.size w25 w20.heap.size n1 P1) := O_h1.out.keep (keep_below hbb (by omega))
  replace O_h : Hid (OwD w21.heap.size w22.heap.size w25 c (.slice ha hk hc) (.slice hm hj he) n1 ps (mers L0 n0 n1 ps)) := O_h.out.keep (keep_below hbb (by omega))
  replace D_w : Hid (Below w.heap.size w w25) := D_w.out.trans (hbb.mono (by omega))
  replace D_w5 : Hid (Below w5.heap.size w5 w25) := D_w5.out.trans (hbb.mono (by omega))
  clear hbb
  go_wp2
  go_ret
  exact ⟨rfl, D_w.out⟩

set_option maxRecDepth 100000 in
theorem lifted (os : Os) (started : os.Started) (H : Type) (enc : TypeId × Value → H) :
    ReturnsInHanded {} Try.checked os 8 .any (Rows.fnExactDescendSpec.pre6 enc Try.prog Try.f8 Rows.fnExactDescendRow.domain false) (Rows.fnExactDescendSpec.post enc Try.prog Try.f8 false true false false) := by
  refine returnsInHanded_of_change (C := Try.checked) own started (by kernel_rfl) Try.func8
    (ChangeSpec.witness6 (enc := enc) (C := Try.checked) false ⟨#[], #[.slice none 0 0, .slice none 0 0, .int .i64 0, .int .i64 0], []⟩ 8 (by kernel_rfl) (by kernel_rfl) (by kernel_rfl) (by kernel_rfl)) ?_
  intro W base args ds gs before hval0 hW hcnd _
  have hval : ∀ (j : Nat) t v, Try.f8.params[j]? = some t → args[j]? = some v → Value.okWide Try.prog W .any base t v := hval0
  have hW' := hW
  obtain ⟨p, q, hA0, hV, rfl, hfz, hnd⟩ := hW
  have hA : DataW.TrodAll enc Try.prog W 0 (fun _ => true) true Try.f8.params.toList args.toList ds p := hA0
  rw [Try.params8] at hA hval
  obtain ⟨v0, vs0, d0, ds0, p0, q0, hargs, rfl, rfl, h0, r0⟩ := trodAll_cons hA
  obtain ⟨v1, vs1, d1, ds1, p1, q1, rfl, rfl, rfl, h1, r1⟩ := trodAll_cons r0
  obtain ⟨v2, vs2, d2, ds2, p2, q2, rfl, rfl, rfl, h2, r2⟩ := trodAll_cons r1
  obtain ⟨v3, vs3, d3, ds3, p3, q3, rfl, rfl, rfl, h3, r3⟩ := trodAll_cons r2
  obtain ⟨rfl, rfl, rfl⟩ := trodAll_nil r3
  obtain rfl : args = #[v0, v1, v2, v3] := by cases args; simp_all
  obtain ⟨rfl, rfl⟩ := trodVars_none hV
  have k0 := h0
  have lt0 : ∀ x ∈ p0, x.block < W.heap.size := by obtain ⟨m, hm⟩ := k0; exact DataW.trod_lt m _ _ _ hm
  obtain ⟨n0, L0, R0, nb0, lb0⟩ := open_aims (hval 0 42 v0 rfl rfl) h0
  have k1 := h1
  have lt1 : ∀ x ∈ p1, x.block < W.heap.size := by obtain ⟨m, hm⟩ := k1; exact DataW.trod_lt m _ _ _ hm
  obtain ⟨n1, F1, R1, nb1⟩ := open_row (hval 1 24 v1 rfl rfl) h1
  have k2 := h2
  have lt2 : ∀ x ∈ p2, x.block < W.heap.size := by obtain ⟨m, hm⟩ := k2; exact DataW.trod_lt m _ _ _ hm
  obtain ⟨n2, rfl, _, _, w2⟩ := open_int Try.underlying2 (hval 2 2 v2 rfl rfl) h2
  have k3 := h3
  have lt3 : ∀ x ∈ p3, x.block < W.heap.size := by obtain ⟨m, hm⟩ := k3; exact DataW.trod_lt m _ _ _ hm
  obtain ⟨n3, rfl, _, _, w3⟩ := open_int Try.underlying2 (hval 3 2 v3 rfl rfl) h3
  clear hA0 hval0
  refine (walk R0 nb0 lb0 R1 nb1 n2 (i64_lo w2) (i64_hi w2) n3 (i64_lo w3) (i64_hi w3)).mono fun e W' ⟨he, bel⟩ => ?_
  subst he
  exact ⟨_, rfl, _, _, _, [], _, [], hW', trodAll_mk1 (shut_bool Try.underlying4 _), (trodAll_cons_mk (Below.trod laidOut (by kernel_rfl) (of_decide_eq_true (by kernel_rfl)) k0 bel lt0) (trodAll_cons_mk (Below.trod laidOut (by kernel_rfl) (of_decide_eq_true (by kernel_rfl)) k1 bel lt1) (trodAll_cons_mk (Below.trod laidOut (by kernel_rfl) (of_decide_eq_true (by kernel_rfl)) k2 bel lt2) (trodAll_cons_mk (Below.trod laidOut (by kernel_rfl) (of_decide_eq_true (by kernel_rfl)) k3 bel lt3) trodAll_mk0)))), rfl, bel.frame _, fun h => by cases h⟩

theorem over : Rows.fnExactDescendRow.holds Try.pinned (OpenSpec.ofChange Rows.fnExactDescendSpec) :=
  OpenClaim.holds_of_wide_leaving 8 Try.f8 rfl rfl rfl rfl rfl rfl rfl ⟨rfl, rfl, rfl, rfl, rfl⟩ rfl rfl rfl rfl rfl (by kernel_rfl) Try.func8 (by kernel_rfl)
    (of_decide_eq_true (by kernel_rfl)) (by unfold Func.isWrapper; first | (rw [if_pos (by decide +kernel)]; kernel_rfl) | (rw [if_neg (by decide +kernel)]; exact ⟨rfl, rfl⟩))
    (fun os started H enc _ => leave_of_handed (lifted os started H enc))
end Go.Proofs.Ytelejihgechmgaa.LawDescend
namespace Go.Proofs.Ytelejihgechmgaa
theorem descend_holds : Rows.FnExactDescendSaid := LawDescend.over
#print axioms descend_holds
end Go.Proofs.Ytelejihgechmgaa
