/- At every argument the program's WorstCorner answers as the specification, where the law's own bound on the sizes does not answer first; what it answers owns its memory; nothing that was there is changed. -/
import Derived.Test.YtelejihgechmgaaWb
import Derived.Test.YtelejihgechmgaaMe
import Derived.Test.YtelejihgechmgaaAk
import Derived.Test.YtelejihgechmgaaOf
import Derived.Test.YtelejihgechmgaaRw
import Derived.Test.YtelejihgechmgaaLv
import Derived.Handy
import Derived.Deep.RegionHeld3
import Derived.Deep.DeepCutAuto
namespace Go.Proofs.Ytelejihgechmgaa.LawWorstCorner
open Go.ChangeShapes Go.WideShapes Go.ChangeAt Go.RowKit Go.Joins
set_option linter.unusedVariables false

set_option maxHeartbeats 4000000 in
set_option maxRecDepth 20000 in
theorem walk {w : World} {v0 : Value} {n0 : Nat} {L0 : Nat → Li} (h0 : RdL w v0 n0 L0) (nb0 : n0 ≤ 9223372036854775807) (lb0 : LBd n0 L0) {v1 : Value} {n1 : Nat} {P1 : Nat → Int} (h1 : RdRow w v1 n1 P1) (nb1 : n1 ≤ 9223372036854775807) {v2 : Value} {n2 : Nat} {P2 : Nat → Int} (h2 : RdRow w v2 n2 P2) (nb2 : n2 ≤ 9223372036854775807) :
    Calls Try.prog 11 #[v0, v1, v2] w fun e w' => e = .returned (.bool true) ∧ Below w.heap.size w w' := by
  obtain ⟨va0, vc0, ev0⟩ : ∃ ao cap, v0 = .slice ao n0 cap := h0.shape
  subst ev0
  have H0 : Hid (RdL w (.slice va0 n0 vc0) n0 L0) := h0
  have HB0 : Hid (LBd n0 L0) := lb0
  clear h0 lb0
  obtain ⟨va1, vc1, ev1⟩ : ∃ ao cap, v1 = .slice ao n1 cap := h1.shape
  subst ev1
  have H1 : Hid (RdRow w (.slice va1 n1 vc1) n1 P1) := h1
  clear h1
  obtain ⟨va2, vc2, ev2⟩ : ∃ ao cap, v2 = .slice ao n2 cap := h2.shape
  subst ev2
  have H2 : Hid (RdRow w (.slice va2 n2 vc2) n2 P2) := h2
  clear h2
  have D_w : Hid (Below w.heap.size w w) := Below.refl _ _
  have zw : w.heap.size ≤ w.heap.size := Nat.le_refl _
  by_cases hlong1 : (1048576 : Int) < n1
  · go_enter Try.func11, Try.ntmps11
    go_wp2
    go_ret
    exact ⟨rfl, (Below.refl _ _)⟩
  have hm1 : (n1 : Int) ≤ 1048576 := by omega
  by_cases hlong2 : (1048576 : Int) < n2
  · go_enter Try.func11, Try.ntmps11
    go_wp2
    go_ret
    exact ⟨rfl, (Below.refl _ _)⟩
  have hm2 : (n2 : Int) ≤ 1048576 := by omega
  obtain ⟨u, m, hcc⟩ : ∃ u m, u = Mt.lcode L0 n0 n1 P1 n2 P2 ∧ m = Mt.worst L0 n0 n1 P1 n2 P2 := ⟨_, _, rfl, rfl⟩
  have HCC : Hid (u = Mt.lcode L0 n0 n1 P1 n2 P2 ∧ m = Mt.worst L0 n0 n1 P1 n2 P2) := hcc
  clear hcc
  go_enter Try.func11, Try.ntmps11
  go_wp2_with fail
  refine (szLits_any (H0.out.later D_w.out) 1048576 (by omega) (by omega) nb0 HB0.out).mono ?_
  rintro e w1 ⟨left0, rfl, ht, hbb⟩
  have zw1 : w.heap.size ≤ w1.heap.size := hbb.size
  replace D_w : Hid (Below w.heap.size w w1) := D_w.out.trans (hbb.mono (by omega))
  clear hbb
  have HT0 : Hid (ToldL n0 L0 1048576 left0) := ht
  clear ht
  by_cases hr0 : left0 < 0
  · go_wp2
    go_ret
    exact ⟨rfl, D_w.out⟩
  have hs0 := ToldL.ok HT0.out hr0
  have hs0b : left0 ≤ 1048576 := ToldL.le HT0.out hr0
  have hm0 : (n0 : Int) ≤ 1048576 := by omega
  have HS0 : Hid (LFew n0 L0) := ⟨by omega, by have := hs0; omega⟩
  clear HT0
  go_wp2_with fail
  refine (toLits_any (H0.out.later D_w.out) HS0.out).mono ?_
  rintro e w2 ⟨gc0, rfl, hmo, hbb⟩
  have zw2 : w1.heap.size ≤ w2.heap.size := hbb.size
  replace D_w : Hid (Below w.heap.size w w2) := D_w.out.trans (hbb.mono (by omega))
  clear hbb
  have O_c0 : Hid (OwLs w1.heap.size w2.heap.size w2 gc0 n0 L0) := hmo
  clear hmo
  go_wp2_with fail
  refine (toS_any (H1.out.later D_w.out) (by omega)).mono ?_
  rintro e w3 ⟨rfl, hmo, hbb, hzz⟩
  have zw3 : w2.heap.size ≤ w3.heap.size := hbb.size
  replace O_c0 : Hid (OwLs w1.heap.size w2.heap.size w3 gc0 n0 L0) := O_c0.out.keep (keep_below hbb (by omega))
  replace D_w : Hid (Below w.heap.size w w3) := D_w.out.trans (hbb.mono (by omega))
  clear hbb
  have O_c1 : Hid (OwF w2.heap.size w3.heap.size w3 w2.heap.size n1 P1) := ⟨Nat.le_refl _, by omega, hmo⟩
  clear hmo hzz
  go_wp2_with fail
  refine (toS_any (H2.out.later D_w.out) (by omega)).mono ?_
  rintro e w4 ⟨rfl, hmo, hbb, hzz⟩
  have zw4 : w3.heap.size ≤ w4.heap.size := hbb.size
  replace O_c0 : Hid (OwLs w1.heap.size w2.heap.size w4 gc0 n0 L0) := O_c0.out.keep (keep_below hbb (by omega))
  replace O_c1 : Hid (OwF w2.heap.size w3.heap.size w4 w2.heap.size n1 P1) := O_c1.out.keep (keep_below hbb (by omega))
  replace D_w : Hid (Below w.heap.size w w4) := D_w.out.trans (hbb.mono (by omega))
  clear hbb
  have O_c2 : Hid (OwF w3.heap.size w4.heap.size w4 w3.heap.size n2 P2) := ⟨Nat.le_refl _, by omega, hmo⟩
  clear hmo hzz
  go_wp2_with fail
  refine (sWorst_any HCC.out.1 HCC.out.2 O_c0.out.rd O_c1.out.rd O_c2.out.rd (by omega) (by omega) (by omega)).mono ?_
  rintro e w5 ⟨rfl, hbb⟩
  have zw5 : w4.heap.size ≤ w5.heap.size := hbb.size
  replace O_c0 : Hid (OwLs w1.heap.size w2.heap.size w5 gc0 n0 L0) := O_c0.out.keep (keep_below hbb (by omega))
  replace O_c1 : Hid (OwF w2.heap.size w3.heap.size w5 w2.heap.size n1 P1) := O_c1.out.keep (keep_below hbb (by omega))
  replace O_c2 : Hid (OwF w3.heap.size w4.heap.size w5 w3.heap.size n2 P2) := O_c2.out.keep (keep_below hbb (by omega))
  replace D_w : Hid (Below w.heap.size w w5) := D_w.out.trans (hbb.mono (by omega))
  clear hbb
  clear O_c0
  clear O_c1
  clear O_c2
  go_wp2_with fail
  obtain ⟨w6, hwd⟩ : ∃ W, W = w5.alloc (.cells #[.int .i64 u, .int .i64 m] 36) := ⟨_, rfl⟩
  have NB : Hid (Blk w6 w5.heap.size #[.int .i64 u, .int .i64 m] 36) := by rw [hwd]; exact Blk.new rfl
  have hbb : Below w5.heap.size w5 w6 := by rw [hwd]; exact (Below.refl _ _).alloc (Nat.le_refl _) _
  have yw6 : w5.heap.size + 1 ≤ w6.heap.size := by rw [hwd]; simp
  have HWD : Hid (w6 = w5.alloc (.cells #[.int .i64 u, .int .i64 m] 36)) := hwd
  rw [← hwd]
  clear hwd
  have zw6 : w5.heap.size ≤ w6.heap.size := hbb.size
  replace D_w : Hid (Below w.heap.size w w6) := D_w.out.trans (hbb.mono (by omega))
  clear hbb
  have B_S := NB
  clear NB
  clear HWD
  refine (toLits_any (H0.out.later D_w.out) HS0.out).mono ?_
  rintro e w7 ⟨gx0, rfl, hmo, hbb⟩
  have zw7 : w6.heap.size ≤ w7.heap.size := hbb.size
  replace B_S : Hid (Blk w7 w5.heap.size #[.int .i64 u, .int .i64 m] 36) := B_S.out.old hbb
  replace D_w : Hid (Below w.heap.size w w7) := D_w.out.trans (hbb.mono (by omega))
  clear hbb
  have O_x0 : Hid (OwLs w6.heap.size w7.heap.size w7 gx0 n0 L0) := hmo
  clear hmo
  go_wp2_with fail
  refine (toS_any (H1.out.later D_w.out) (by omega)).mono ?_
  rintro e w8 ⟨rfl, hmo, hbb, hzz⟩
  have zw8 : w7.heap.size ≤ w8.heap.size := hbb.size
  replace B_S : Hid (Blk w8 w5.heap.size #[.int .i64 u, .int .i64 m] 36) := B_S.out.old hbb
  replace O_x0 : Hid (OwLs w6.heap.size w7.heap.size w8 gx0 n0 L0) := O_x0.out.keep (keep_below hbb (by omega))
  replace D_w : Hid (Below w.heap.size w w8) := D_w.out.trans (hbb.mono (by omega))
  clear hbb
  have O_x1 : Hid (OwF w7.heap.size w8.heap.size w8 w7.heap.size n1 P1) := ⟨Nat.le_refl _, by omega, hmo⟩
  clear hmo hzz
  go_wp2_with fail
  refine (toS_any (H2.out.later D_w.out) (by omega)).mono ?_
  rintro e w9 ⟨rfl, hmo, hbb, hzz⟩
  have zw9 : w8.heap.size ≤ w9.heap.size := hbb.size
  replace B_S : Hid (Blk w9 w5.heap.size #[.int .i64 u, .int .i64 m] 36) := B_S.out.old hbb
  replace O_x0 : Hid (OwLs w6.heap.size w7.heap.size w9 gx0 n0 L0) := O_x0.out.keep (keep_below hbb (by omega))
  replace O_x1 : Hid (OwF w7.heap.size w8.heap.size w9 w7.heap.size n1 P1) := O_x1.out.keep (keep_below hbb (by omega))
  replace D_w : Hid (Below w.heap.size w w9) := D_w.out.trans (hbb.mono (by omega))
  clear hbb
  have O_x2 : Hid (OwF w8.heap.size w9.heap.size w9 w8.heap.size n2 P2) := ⟨Nat.le_refl _, by omega, hmo⟩
  clear hmo hzz
  go_wp2_with fail
  refine (iWorst_any HCC.out.1 HCC.out.2 O_x0.out.rd O_x1.out.rd O_x2.out.rd (by omega) (by omega) (by omega)).mono ?_
  rintro e w10 ⟨rfl, hbb⟩
  have zw10 : w9.heap.size ≤ w10.heap.size := hbb.size
  replace B_S : Hid (Blk w10 w5.heap.size #[.int .i64 u, .int .i64 m] 36) := B_S.out.old hbb
  replace O_x0 : Hid (OwLs w6.heap.size w7.heap.size w10 gx0 n0 L0) := O_x0.out.keep (keep_below hbb (by omega))
  replace O_x1 : Hid (OwF w7.heap.size w8.heap.size w10 w7.heap.size n1 P1) := O_x1.out.keep (keep_below hbb (by omega))
  replace O_x2 : Hid (OwF w8.heap.size w9.heap.size w10 w8.heap.size n2 P2) := O_x2.out.keep (keep_below hbb (by omega))
  replace D_w : Hid (Below w.heap.size w w10) := D_w.out.trans (hbb.mono (by omega))
  clear hbb
  have c_S_0 := B_S.out.cell (j := 0) rfl
  have c_S_1 := B_S.out.cell (j := 1) rfl
  have l_S := B_S.out.lt
  go_wp2_with fail
  obtain ⟨w11, hwd⟩ : ∃ W, W = w10.alloc (.cells #[.int .i64 u, .int .i64 m] 36) := ⟨_, rfl⟩
  have NB : Hid (Blk w11 w10.heap.size #[.int .i64 u, .int .i64 m] 36) := by rw [hwd]; exact Blk.new rfl
  have hbb : Below w10.heap.size w10 w11 := by rw [hwd]; exact (Below.refl _ _).alloc (Nat.le_refl _) _
  have yw11 : w10.heap.size + 1 ≤ w11.heap.size := by rw [hwd]; simp
  rw [← hwd]
  clear hwd
  clear c_S_0 c_S_1 l_S
  have zw11 : w10.heap.size ≤ w11.heap.size := hbb.size
  replace B_S : Hid (Blk w11 w5.heap.size #[.int .i64 u, .int .i64 m] 36) := B_S.out.old hbb
  replace O_x0 : Hid (OwLs w6.heap.size w7.heap.size w11 gx0 n0 L0) := O_x0.out.keep (keep_below hbb (by omega))
  replace O_x1 : Hid (OwF w7.heap.size w8.heap.size w11 w7.heap.size n1 P1) := O_x1.out.keep (keep_below hbb (by omega))
  replace O_x2 : Hid (OwF w8.heap.size w9.heap.size w11 w8.heap.size n2 P2) := O_x2.out.keep (keep_below hbb (by omega))
  replace D_w : Hid (Below w.heap.size w w11) := D_w.out.trans (hbb.mono (by omega))
  clear hbb
  have B_G := NB
  clear NB
  refine (eqMerit_same u m _).mono ?_
  rintro e w12 ⟨rfl, hbb⟩
  have zw12 : w11.heap.size ≤ w12.heap.size := hbb.size
  replace B_S : Hid (Blk w12 w5.heap.size #[.int .i64 u, .int .i64 m] 36) := B_S.out.old hbb
  replace B_G : Hid (Blk w12 w10.heap.size #[.int .i64 u, .int .i64 m] 36) := B_G.out.old hbb
  replace O_x0 : Hid (OwLs w6.heap.size w7.heap.size w12 gx0 n0 L0) := O_x0.out.keep (keep_below hbb (by omega))
  replace O_x1 : Hid (OwF w7.heap.size w8.heap.size w12 w7.heap.size n1 P1) := O_x1.out.keep (keep_below hbb (by omega))
  replace O_x2 : Hid (OwF w8.heap.size w9.heap.size w12 w8.heap.size n2 P2) := O_x2.out.keep (keep_below hbb (by omega))
  replace D_w : Hid (Below w.heap.size w w12) := D_w.out.trans (hbb.mono (by omega))
  clear hbb
  go_wp2_with fail
  refine (toLits_any (H0.out.later D_w.out) HS0.out).mono ?_
  rintro e w13 ⟨gq, rfl, hmo, hbb⟩
  have zw13 : w12.heap.size ≤ w13.heap.size := hbb.size
  replace B_S : Hid (Blk w13 w5.heap.size #[.int .i64 u, .int .i64 m] 36) := B_S.out.old hbb
  replace B_G : Hid (Blk w13 w10.heap.size #[.int .i64 u, .int .i64 m] 36) := B_G.out.old hbb
  replace O_x0 : Hid (OwLs w6.heap.size w7.heap.size w13 gx0 n0 L0) := O_x0.out.keep (keep_below hbb (by omega))
  replace O_x1 : Hid (OwF w7.heap.size w8.heap.size w13 w7.heap.size n1 P1) := O_x1.out.keep (keep_below hbb (by omega))
  replace O_x2 : Hid (OwF w8.heap.size w9.heap.size w13 w8.heap.size n2 P2) := O_x2.out.keep (keep_below hbb (by omega))
  replace D_w : Hid (Below w.heap.size w w13) := D_w.out.trans (hbb.mono (by omega))
  clear hbb
  have O_q : Hid (OwLs w12.heap.size w13.heap.size w13 gq n0 L0) := hmo
  clear hmo
  go_wp2_with fail
  refine (eqLits_any O_x0.out.rd O_q.out.rd HS0.out).mono ?_
  rintro e w14 ⟨rfl, hbb⟩
  clear O_q
  have zw14 : w13.heap.size ≤ w14.heap.size := hbb.size
  replace B_S : Hid (Blk w14 w5.heap.size #[.int .i64 u, .int .i64 m] 36) := B_S.out.old hbb
  replace B_G : Hid (Blk w14 w10.heap.size #[.int .i64 u, .int .i64 m] 36) := B_G.out.old hbb
  replace O_x0 : Hid (OwLs w6.heap.size w7.heap.size w14 gx0 n0 L0) := O_x0.out.keep (keep_below hbb (by omega))
  replace O_x1 : Hid (OwF w7.heap.size w8.heap.size w14 w7.heap.size n1 P1) := O_x1.out.keep (keep_below hbb (by omega))
  replace O_x2 : Hid (OwF w8.heap.size w9.heap.size w14 w8.heap.size n2 P2) := O_x2.out.keep (keep_below hbb (by omega))
  replace D_w : Hid (Below w.heap.size w w14) := D_w.out.trans (hbb.mono (by omega))
  clear hbb
  go_wp2_with fail
  refine (toS_any (H1.out.later D_w.out) (by omega)).mono ?_
  rintro e w15 ⟨rfl, hmo, hbb, hzz⟩
  have zw15 : w14.heap.size ≤ w15.heap.size := hbb.size
  replace B_S : Hid (Blk w15 w5.heap.size #[.int .i64 u, .int .i64 m] 36) := B_S.out.old hbb
  replace B_G : Hid (Blk w15 w10.heap.size #[.int .i64 u, .int .i64 m] 36) := B_G.out.old hbb
  replace O_x0 : Hid (OwLs w6.heap.size w7.heap.size w15 gx0 n0 L0) := O_x0.out.keep (keep_below hbb (by omega))
  replace O_x1 : Hid (OwF w7.heap.size w8.heap.size w15 w7.heap.size n1 P1) := O_x1.out.keep (keep_below hbb (by omega))
  replace O_x2 : Hid (OwF w8.heap.size w9.heap.size w15 w8.heap.size n2 P2) := O_x2.out.keep (keep_below hbb (by omega))
  replace D_w : Hid (Below w.heap.size w w15) := D_w.out.trans (hbb.mono (by omega))
  clear hbb
  have O_q : Hid (OwF w14.heap.size w15.heap.size w15 w14.heap.size n1 P1) := ⟨Nat.le_refl _, by omega, hmo⟩
  clear hmo hzz
  go_wp2_with fail
  refine (eqS_any O_x1.out.rd O_q.out.rd (by omega)).mono ?_
  rintro e w16 ⟨rfl, q, hqq⟩
  have hbb : Below w15.heap.size w15 w16 := by rw [hqq]; exact below_drewN (Below.refl _ _) q
  clear hqq
  clear O_q
  have zw16 : w15.heap.size ≤ w16.heap.size := hbb.size
  replace B_S : Hid (Blk w16 w5.heap.size #[.int .i64 u, .int .i64 m] 36) := B_S.out.old hbb
  replace B_G : Hid (Blk w16 w10.heap.size #[.int .i64 u, .int .i64 m] 36) := B_G.out.old hbb
  replace O_x0 : Hid (OwLs w6.heap.size w7.heap.size w16 gx0 n0 L0) := O_x0.out.keep (keep_below hbb (by omega))
  replace O_x1 : Hid (OwF w7.heap.size w8.heap.size w16 w7.heap.size n1 P1) := O_x1.out.keep (keep_below hbb (by omega))
  replace O_x2 : Hid (OwF w8.heap.size w9.heap.size w16 w8.heap.size n2 P2) := O_x2.out.keep (keep_below hbb (by omega))
  replace D_w : Hid (Below w.heap.size w w16) := D_w.out.trans (hbb.mono (by omega))
  clear hbb
  go_wp2_with fail
  refine (toS_any (H2.out.later D_w.out) (by omega)).mono ?_
  rintro e w17 ⟨rfl, hmo, hbb, hzz⟩
  have zw17 : w16.heap.size ≤ w17.heap.size := hbb.size
  replace B_S : Hid (Blk w17 w5.heap.size #[.int .i64 u, .int .i64 m] 36) := B_S.out.old hbb
  replace B_G : Hid (Blk w17 w10.heap.size #[.int .i64 u, .int .i64 m] 36) := B_G.out.old hbb
  replace O_x0 : Hid (OwLs w6.heap.size w7.heap.size w17 gx0 n0 L0) := O_x0.out.keep (keep_below hbb (by omega))
  replace O_x1 : Hid (OwF w7.heap.size w8.heap.size w17 w7.heap.size n1 P1) := O_x1.out.keep (keep_below hbb (by omega))
  replace O_x2 : Hid (OwF w8.heap.size w9.heap.size w17 w8.heap.size n2 P2) := O_x2.out.keep (keep_below hbb (by omega))
  replace D_w : Hid (Below w.heap.size w w17) := D_w.out.trans (hbb.mono (by omega))
  clear hbb
  have O_q : Hid (OwF w16.heap.size w17.heap.size w17 w16.heap.size n2 P2) := ⟨Nat.le_refl _, by omega, hmo⟩
  clear hmo hzz
  go_wp2_with fail
  refine (eqS_any O_x2.out.rd O_q.out.rd (by omega)).mono ?_
  rintro e w18 ⟨rfl, q, hqq⟩
  have hbb : Below w17.heap.size w17 w18 := by rw [hqq]; exact below_drewN (Below.refl _ _) q
  clear hqq
  clear O_q
  have zw18 : w17.heap.size ≤ w18.heap.size := hbb.size
  replace B_S : Hid (Blk w18 w5.heap.size #[.int .i64 u, .int .i64 m] 36) := B_S.out.old hbb
  replace B_G : Hid (Blk w18 w10.heap.size #[.int .i64 u, .int .i64 m] 36) := B_G.out.old hbb
  replace O_x0 : Hid (OwLs w6.heap.size w7.heap.size w18 gx0 n0 L0) := O_x0.out.keep (keep_below hbb (by omega))
  replace O_x1 : Hid (OwF w7.heap.size w8.heap.size w18 w7.heap.size n1 P1) := O_x1.out.keep (keep_below hbb (by omega))
  replace O_x2 : Hid (OwF w8.heap.size w9.heap.size w18 w8.heap.size n2 P2) := O_x2.out.keep (keep_below hbb (by omega))
  replace D_w : Hid (Below w.heap.size w w18) := D_w.out.trans (hbb.mono (by omega))
  clear hbb
  go_wp2
  go_ret
  exact ⟨rfl, D_w.out⟩

set_option maxRecDepth 100000 in
theorem lifted (os : Os) (started : os.Started) (H : Type) (enc : TypeId × Value → H) :
    ReturnsInHanded {} Try.checked os 11 .any (Rows.fnExactWorstCornerSpec.pre6 enc Try.prog Try.f11 Rows.fnExactWorstCornerRow.domain false) (Rows.fnExactWorstCornerSpec.post enc Try.prog Try.f11 false true false false) := by
  refine returnsInHanded_of_change (C := Try.checked) own started (by kernel_rfl) Try.func11
    (ChangeSpec.witness6 (enc := enc) (C := Try.checked) false ⟨#[], #[.slice none 0 0, .slice none 0 0, .slice none 0 0], []⟩ 8 (by kernel_rfl) (by kernel_rfl) (by kernel_rfl) (by kernel_rfl)) ?_
  intro W base args ds gs before hval0 hW hcnd _
  have hval : ∀ (j : Nat) t v, Try.f11.params[j]? = some t → args[j]? = some v → Value.okWide Try.prog W .any base t v := hval0
  have hW' := hW
  obtain ⟨p, q, hA0, hV, rfl, hfz, hnd⟩ := hW
  have hA : DataW.TrodAll enc Try.prog W 0 (fun _ => true) true Try.f11.params.toList args.toList ds p := hA0
  rw [Try.params11] at hA hval
  obtain ⟨v0, vs0, d0, ds0, p0, q0, hargs, rfl, rfl, h0, r0⟩ := trodAll_cons hA
  obtain ⟨v1, vs1, d1, ds1, p1, q1, rfl, rfl, rfl, h1, r1⟩ := trodAll_cons r0
  obtain ⟨v2, vs2, d2, ds2, p2, q2, rfl, rfl, rfl, h2, r2⟩ := trodAll_cons r1
  obtain ⟨rfl, rfl, rfl⟩ := trodAll_nil r2
  obtain rfl : args = #[v0, v1, v2] := by cases args; simp_all
  obtain ⟨rfl, rfl⟩ := trodVars_none hV
  have k0 := h0
  have lt0 : ∀ x ∈ p0, x.block < W.heap.size := by obtain ⟨m, hm⟩ := k0; exact DataW.trod_lt m _ _ _ hm
  obtain ⟨n0, L0, R0, nb0, lb0⟩ := open_aims (hval 0 42 v0 rfl rfl) h0
  have k1 := h1
  have lt1 : ∀ x ∈ p1, x.block < W.heap.size := by obtain ⟨m, hm⟩ := k1; exact DataW.trod_lt m _ _ _ hm
  obtain ⟨n1, F1, R1, nb1⟩ := open_row (hval 1 24 v1 rfl rfl) h1
  have k2 := h2
  have lt2 : ∀ x ∈ p2, x.block < W.heap.size := by obtain ⟨m, hm⟩ := k2; exact DataW.trod_lt m _ _ _ hm
  obtain ⟨n2, F2, R2, nb2⟩ := open_row (hval 2 24 v2 rfl rfl) h2
  clear hA0 hval0
  refine (walk R0 nb0 lb0 R1 nb1 R2 nb2).mono fun e W' ⟨he, bel⟩ => ?_
  subst he
  exact ⟨_, rfl, _, _, _, [], _, [], hW', trodAll_mk1 (shut_bool Try.underlying4 _), (trodAll_cons_mk (Below.trod laidOut (by kernel_rfl) (of_decide_eq_true (by kernel_rfl)) k0 bel lt0) (trodAll_cons_mk (Below.trod laidOut (by kernel_rfl) (of_decide_eq_true (by kernel_rfl)) k1 bel lt1) (trodAll_cons_mk (Below.trod laidOut (by kernel_rfl) (of_decide_eq_true (by kernel_rfl)) k2 bel lt2) trodAll_mk0))), rfl, bel.frame _, fun h => by cases h⟩

theorem over : Rows.fnExactWorstCornerRow.holds Try.pinned (OpenSpec.ofChange Rows.fnExactWorstCornerSpec) :=
  OpenClaim.holds_of_wide_leaving 11 Try.f11 rfl rfl rfl rfl rfl rfl rfl ⟨rfl, rfl, rfl, rfl, rfl⟩ rfl rfl rfl rfl rfl (by kernel_rfl) Try.func11 (by kernel_rfl)
    (of_decide_eq_true (by kernel_rfl)) (by unfold Func.isWrapper; first | (rw [if_pos (by decide +kernel)]; kernel_rfl) | (rw [if_neg (by decide +kernel)]; exact ⟨rfl, rfl⟩))
    (fun os started H enc _ => leave_of_handed (lifted os started H enc))
end Go.Proofs.Ytelejihgechmgaa.LawWorstCorner
namespace Go.Proofs.Ytelejihgechmgaa
theorem worstCorner_holds : Rows.FnExactWorstCornerSaid := LawWorstCorner.over
#print axioms worstCorner_holds
end Go.Proofs.Ytelejihgechmgaa
