/- At every argument the program's FireMesh answers as the specification, code and list, where the law's own bound on the sizes does not answer first; what it answers owns its memory; nothing that was there is changed. -/
import Derived.Test.YtboppklcmdfphaaFm
import Derived.Test.YtboppklcmdfphaaOm
import Derived.Test.YtboppklcmdfphaaAux
import Derived.Handy
import Derived.Deep.RegionHeld3
import Derived.Deep.DeepCutAuto
namespace Go.Proofs.Ytboppklcmdfphaa.LawFireMesh
open Go.ChangeShapes Go.WideShapes Go.ChangeAt Go.RowKit Go.Joins
set_option linter.unusedVariables false

set_option maxHeartbeats 4000000 in
set_option maxRecDepth 20000 in
theorem walk {w : World} {sd0 : Int} {ao0 bo0 : Option Addr} {np0 cp0 nc0 cq0 : Nat} {ph0 : Nat → Int} {C0 : Nat → Ce} (hp0 : RdRow w (.slice ao0 np0 cp0) np0 ph0) (hc0 : RdV w (.slice bo0 nc0 cq0) nc0 6 (fun i j => ccell (C0 i) j)) (bp0 : np0 ≤ 9223372036854775807) (bc0 : nc0 ≤ 9223372036854775807) {v1 : Value} {n1 : Nat} {F1 : Nat → Int} (h1 : RdRow w v1 n1 F1) (hn1 : n1 ≤ 9223372036854775807) :
    Calls Try.prog 6 #[.agg #[.int .i64 sd0, .slice ao0 np0 cp0, .slice bo0 nc0 cq0], v1] w fun e w' => e = .returned (.bool true) ∧ Below w.heap.size w w' := by
  have H0 : Hid (RdRow w (.slice ao0 np0 cp0) np0 ph0 ∧ RdV w (.slice bo0 nc0 cq0) nc0 6 (fun i j => ccell (C0 i) j)) := ⟨hp0, hc0⟩
  clear hp0 hc0
  obtain ⟨va1, vc1, ev1⟩ : ∃ ao cap, v1 = .slice ao n1 cap := h1.shape
  subst ev1
  have H1 : Hid (RdRow w (.slice va1 n1 vc1) n1 F1) := h1
  clear h1
  have D_w : Hid (Below w.heap.size w w) := Below.refl _ _
  have zw : w.heap.size ≤ w.heap.size := Nat.le_refl _
  obtain ⟨c, hcc⟩ : ∃ c, c = fcode (Rm.mfault sd0 np0 ph0 nc0 C0) n1 sd0 := ⟨_, rfl⟩
  have HCC : Hid (c = fcode (Rm.mfault sd0 np0 ph0 nc0 C0) n1 sd0) := hcc
  clear hcc
  go_enter Try.func6, Try.ntmps6
  by_cases hl : (1048576 : Int) < (n1 : Int)
  · go_wp2
    go_ret
    exact ⟨rfl, by go_grown⟩
  go_wp2_with fail
  obtain ⟨w1, hwd⟩ : ∃ W, W = (w.alloc (.cells #[.int .i64 sd0, .slice ao0 np0 cp0, .slice bo0 nc0 cq0] 44)) := ⟨_, rfl⟩
  have B_a0 : Hid (Blk w1 w.heap.size #[.int .i64 sd0, .slice ao0 np0 cp0, .slice bo0 nc0 cq0] 44) := by rw [hwd]; exact Blk.new rfl
  have hbb : Below w.heap.size w w1 := by rw [hwd]; exact (Below.refl _ _).alloc (Nat.le_refl _) _
  rw [← hwd]
  clear hwd
  have zw1 : w.heap.size ≤ w1.heap.size := hbb.size
  replace D_w : Hid (Below w.heap.size w w1) := D_w.out.trans (hbb.mono (by omega))
  clear hbb
  refine (szMe_any _ _ _ _ _ _ _ 1048576 _ (by omega) (by omega) bp0 bc0).mono ?_
  rintro e w2 ⟨rfl, hbb⟩
  have zw2 : w1.heap.size ≤ w2.heap.size := hbb.size
  replace B_a0 : Hid (Blk w2 w.heap.size #[.int .i64 sd0, .slice ao0 np0 cp0, .slice bo0 nc0 cq0] 44) := B_a0.out.old hbb
  replace D_w : Hid (Below w.heap.size w w2) := D_w.out.trans (hbb.mono (by omega))
  clear hbb
  obtain ⟨left0, hleft0⟩ : ∃ l, l = szM 1048576 np0 nc0 := ⟨_, rfl⟩
  rw [← hleft0]
  by_cases hr0 : left0 < 0
  · go_wp2
    go_ret
    exact ⟨rfl, D_w.out⟩
  have hs0 := szM_ok (hleft0 ▸ hr0)
  have hs0b : left0 ≤ 1048576 := by rw [hleft0]; exact szM_le _ _ _ (by omega)
  clear hleft0
  
  have c_a0_0 := B_a0.out.cell (j := 0) rfl
  have c_a0_1 := B_a0.out.cell (j := 1) rfl
  have c_a0_2 := B_a0.out.cell (j := 2) rfl
  have l_a0 := B_a0.out.lt
  go_wp2_with fail
  refine (toMe_any (H0.out.1.later D_w.out) (H0.out.2.later D_w.out) (by omega) (by omega)).mono ?_
  rintro e w3 ⟨gac0, gbc0, rfl, hmo, hbb⟩
  clear c_a0_0 c_a0_1 c_a0_2 l_a0
  have zw3 : w2.heap.size ≤ w3.heap.size := hbb.size
  replace B_a0 : Hid (Blk w3 w.heap.size #[.int .i64 sd0, .slice ao0 np0 cp0, .slice bo0 nc0 cq0] 44) := B_a0.out.old hbb
  replace D_w : Hid (Below w.heap.size w w3) := D_w.out.trans (hbb.mono (by omega))
  clear hbb
  have O_c0 : Hid (MeO w2.heap.size w3.heap.size w3 (.slice (some ⟨gac0, 0, none⟩) np0 np0) (.slice (some ⟨gbc0, 0, none⟩) nc0 nc0) np0 ph0 nc0 C0) := hmo
  clear hmo
  go_wp2_with fail
  refine (toS_any (H1.out.later D_w.out) (by omega)).mono ?_
  rintro e w4 ⟨rfl, hmo, hbb, hzz⟩
  have zw4 : w3.heap.size ≤ w4.heap.size := hbb.size
  replace B_a0 : Hid (Blk w4 w.heap.size #[.int .i64 sd0, .slice ao0 np0 cp0, .slice bo0 nc0 cq0] 44) := B_a0.out.old hbb
  replace O_c0 : Hid (MeO w2.heap.size w3.heap.size w4 (.slice (some ⟨gac0, 0, none⟩) np0 np0) (.slice (some ⟨gbc0, 0, none⟩) nc0 nc0) np0 ph0 nc0 C0) := O_c0.out.keep (keep_below hbb (by omega))
  replace D_w : Hid (Below w.heap.size w w4) := D_w.out.trans (hbb.mono (by omega))
  clear hbb
  have O_c1 : Hid (OwF w3.heap.size w4.heap.size w4 (.slice (some ⟨w3.heap.size, 0, none⟩) n1 n1) n1 F1) := Or.inr ⟨_, _, rfl, Nat.le_refl _, by omega, hmo⟩
  clear hmo hzz
  go_wp2_with fail
  refine (sFM_any O_c0.out.rd O_c1.out.rd (by omega) (by omega) (by omega) HCC.out).mono ?_
  rintro e w5 ⟨sv, rfl, hoo, hbb⟩
  obtain ⟨sa, sk, sc, esv⟩ : ∃ ao k cap, sv = .slice ao k cap := OutL.shape (hoo.rd)
  subst esv
  have RS0 : Hid (OutL w5 c (.slice sa sk sc) np0 (fun i => Rm.fire ph0 C0 F1 nc0 i)) := hoo.rd
  clear hoo
  have zw5 : w4.heap.size ≤ w5.heap.size := hbb.size
  replace B_a0 : Hid (Blk w5 w.heap.size #[.int .i64 sd0, .slice ao0 np0 cp0, .slice bo0 nc0 cq0] 44) := B_a0.out.old hbb
  replace O_c0 : Hid (MeO w2.heap.size w3.heap.size w5 (.slice (some ⟨gac0, 0, none⟩) np0 np0) (.slice (some ⟨gbc0, 0, none⟩) nc0 nc0) np0 ph0 nc0 C0) := O_c0.out.keep (keep_below hbb (by omega))
  replace O_c1 : Hid (OwF w3.heap.size w4.heap.size w5 (.slice (some ⟨w3.heap.size, 0, none⟩) n1 n1) n1 F1) := O_c1.out.keep (keep_below hbb (by omega))
  replace D_w : Hid (Below w.heap.size w w5) := D_w.out.trans (hbb.mono (by omega))
  clear hbb
  clear O_c0
  clear O_c1
  have c_a0_0 := B_a0.out.cell (j := 0) rfl
  have c_a0_1 := B_a0.out.cell (j := 1) rfl
  have c_a0_2 := B_a0.out.cell (j := 2) rfl
  have l_a0 := B_a0.out.lt
  go_wp2_with fail
  obtain ⟨w6, hwd⟩ : ∃ W, W = w5.alloc (.cells #[.int .i64 c, .slice sa sk sc] 53) := ⟨_, rfl⟩
  have NB : Hid (Blk w6 w5.heap.size #[.int .i64 c, .slice sa sk sc] 53) := by rw [hwd]; exact Blk.new rfl
  have hbb : Below w5.heap.size w5 w6 := by rw [hwd]; exact (Below.refl _ _).alloc (Nat.le_refl _) _
  have yw6 : w5.heap.size + 1 ≤ w6.heap.size := by rw [hwd]; simp
  have HWD : Hid (w6 = w5.alloc (.cells #[.int .i64 c, .slice sa sk sc] 53)) := hwd
  rw [← hwd]
  clear hwd
  clear c_a0_0 c_a0_1 c_a0_2 l_a0
  have zw6 : w5.heap.size ≤ w6.heap.size := hbb.size
  replace B_a0 : Hid (Blk w6 w.heap.size #[.int .i64 sd0, .slice ao0 np0 cp0, .slice bo0 nc0 cq0] 44) := B_a0.out.old hbb
  replace D_w : Hid (Below w.heap.size w w6) := D_w.out.trans (hbb.mono (by omega))
  clear hbb
  have B_S := NB
  clear NB
  have RS : Hid (OutL w6 c (.slice sa sk sc) np0 (fun i => Rm.fire ph0 C0 F1 nc0 i)) := RS0.out.later (show Below w5.heap.size w5 w6 from by rw [HWD.out]; exact (Below.refl _ _).alloc (Nat.le_refl _) _)
  clear RS0 HWD
  have D_w6 : Hid (Below w6.heap.size w6 w6) := Below.refl _ _
  refine (toMe_any (H0.out.1.later D_w.out) (H0.out.2.later D_w.out) (by omega) (by omega)).mono ?_
  rintro e w7 ⟨gax0, gbx0, rfl, hmo, hbb⟩
  have zw7 : w6.heap.size ≤ w7.heap.size := hbb.size
  replace B_a0 : Hid (Blk w7 w.heap.size #[.int .i64 sd0, .slice ao0 np0 cp0, .slice bo0 nc0 cq0] 44) := B_a0.out.old hbb
  replace B_S : Hid (Blk w7 w5.heap.size #[.int .i64 c, .slice sa sk sc] 53) := B_S.out.old hbb
  replace D_w : Hid (Below w.heap.size w w7) := D_w.out.trans (hbb.mono (by omega))
  replace D_w6 : Hid (Below w6.heap.size w6 w7) := D_w6.out.trans (hbb.mono (by omega))
  clear hbb
  have O_x0 : Hid (MeO w6.heap.size w7.heap.size w7 (.slice (some ⟨gax0, 0, none⟩) np0 np0) (.slice (some ⟨gbx0, 0, none⟩) nc0 nc0) np0 ph0 nc0 C0) := hmo
  clear hmo
  go_wp2_with fail
  obtain ⟨w8, hwd⟩ : ∃ W, W = w7.alloc (.cells #[.int .i64 sd0, .slice (some ⟨gax0, 0, none⟩) np0 np0, .slice (some ⟨gbx0, 0, none⟩) nc0 nc0] 49) := ⟨_, rfl⟩
  have NB : Hid (Blk w8 w7.heap.size #[.int .i64 sd0, .slice (some ⟨gax0, 0, none⟩) np0 np0, .slice (some ⟨gbx0, 0, none⟩) nc0 nc0] 49) := by rw [hwd]; exact Blk.new rfl
  have hbb : Below w7.heap.size w7 w8 := by rw [hwd]; exact (Below.refl _ _).alloc (Nat.le_refl _) _
  have yw8 : w7.heap.size + 1 ≤ w8.heap.size := by rw [hwd]; simp
  rw [← hwd]
  clear hwd
  have zw8 : w7.heap.size ≤ w8.heap.size := hbb.size
  replace B_a0 : Hid (Blk w8 w.heap.size #[.int .i64 sd0, .slice ao0 np0 cp0, .slice bo0 nc0 cq0] 44) := B_a0.out.old hbb
  replace B_S : Hid (Blk w8 w5.heap.size #[.int .i64 c, .slice sa sk sc] 53) := B_S.out.old hbb
  replace O_x0 : Hid (MeO w6.heap.size w7.heap.size w8 (.slice (some ⟨gax0, 0, none⟩) np0 np0) (.slice (some ⟨gbx0, 0, none⟩) nc0 nc0) np0 ph0 nc0 C0) := O_x0.out.keep (keep_below hbb (by omega))
  replace D_w : Hid (Below w.heap.size w w8) := D_w.out.trans (hbb.mono (by omega))
  replace D_w6 : Hid (Below w6.heap.size w6 w8) := D_w6.out.trans (hbb.mono (by omega))
  clear hbb
  have B_x0 := NB
  clear NB
  refine (toS_any (H1.out.later D_w.out) (by omega)).mono ?_
  rintro e w9 ⟨rfl, hmo, hbb, hzz⟩
  have zw9 : w8.heap.size ≤ w9.heap.size := hbb.size
  replace B_a0 : Hid (Blk w9 w.heap.size #[.int .i64 sd0, .slice ao0 np0 cp0, .slice bo0 nc0 cq0] 44) := B_a0.out.old hbb
  replace B_S : Hid (Blk w9 w5.heap.size #[.int .i64 c, .slice sa sk sc] 53) := B_S.out.old hbb
  replace B_x0 : Hid (Blk w9 w7.heap.size #[.int .i64 sd0, .slice (some ⟨gax0, 0, none⟩) np0 np0, .slice (some ⟨gbx0, 0, none⟩) nc0 nc0] 49) := B_x0.out.old hbb
  replace O_x0 : Hid (MeO w6.heap.size w7.heap.size w9 (.slice (some ⟨gax0, 0, none⟩) np0 np0) (.slice (some ⟨gbx0, 0, none⟩) nc0 nc0) np0 ph0 nc0 C0) := O_x0.out.keep (keep_below hbb (by omega))
  replace D_w : Hid (Below w.heap.size w w9) := D_w.out.trans (hbb.mono (by omega))
  replace D_w6 : Hid (Below w6.heap.size w6 w9) := D_w6.out.trans (hbb.mono (by omega))
  clear hbb
  have O_x1 : Hid (OwF w8.heap.size w9.heap.size w9 (.slice (some ⟨w8.heap.size, 0, none⟩) n1 n1) n1 F1) := Or.inr ⟨_, _, rfl, Nat.le_refl _, by omega, hmo⟩
  clear hmo hzz
  have c_x0_0 := B_x0.out.cell (j := 0) rfl
  have c_x0_1 := B_x0.out.cell (j := 1) rfl
  have c_x0_2 := B_x0.out.cell (j := 2) rfl
  have l_x0 := B_x0.out.lt
  go_wp2_with fail
  refine (iFM_any O_x0.out.rd O_x1.out.rd (by omega) (by omega) (by omega) HCC.out).mono ?_
  rintro e w10 ⟨gv, rfl, hoo, hbb⟩
  clear c_x0_0 c_x0_1 c_x0_2 l_x0
  obtain ⟨ga, gk, gc, egv⟩ : ∃ ao k cap, gv = .slice ao k cap := OutL.shape hoo.rd
  subst egv
  have zw10 : w9.heap.size ≤ w10.heap.size := hbb.size
  replace B_a0 : Hid (Blk w10 w.heap.size #[.int .i64 sd0, .slice ao0 np0 cp0, .slice bo0 nc0 cq0] 44) := B_a0.out.old hbb
  replace B_S : Hid (Blk w10 w5.heap.size #[.int .i64 c, .slice sa sk sc] 53) := B_S.out.old hbb
  replace B_x0 : Hid (Blk w10 w7.heap.size #[.int .i64 sd0, .slice (some ⟨gax0, 0, none⟩) np0 np0, .slice (some ⟨gbx0, 0, none⟩) nc0 nc0] 49) := B_x0.out.old hbb
  replace O_x0 : Hid (MeO w6.heap.size w7.heap.size w10 (.slice (some ⟨gax0, 0, none⟩) np0 np0) (.slice (some ⟨gbx0, 0, none⟩) nc0 nc0) np0 ph0 nc0 C0) := O_x0.out.keep (keep_below hbb (by omega))
  replace O_x1 : Hid (OwF w8.heap.size w9.heap.size w10 (.slice (some ⟨w8.heap.size, 0, none⟩) n1 n1) n1 F1) := O_x1.out.keep (keep_below hbb (by omega))
  replace D_w : Hid (Below w.heap.size w w10) := D_w.out.trans (hbb.mono (by omega))
  replace D_w6 : Hid (Below w6.heap.size w6 w10) := D_w6.out.trans (hbb.mono (by omega))
  have O_g : Hid (OwnL w9.heap.size w10.heap.size w10 c (.slice ga gk gc) np0 (fun i => Rm.fire ph0 C0 F1 nc0 i)) := hoo
  clear hoo hbb
  have c_S_0 := B_S.out.cell (j := 0) rfl
  have c_S_1 := B_S.out.cell (j := 1) rfl
  have l_S := B_S.out.lt
  go_wp2_with fail
  obtain ⟨w11, hwd⟩ : ∃ W, W = w10.alloc (.cells #[.int .i64 c, .slice ga gk gc] 53) := ⟨_, rfl⟩
  have NB : Hid (Blk w11 w10.heap.size #[.int .i64 c, .slice ga gk gc] 53) := by rw [hwd]; exact Blk.new rfl
  have hbb : Below w10.heap.size w10 w11 := by rw [hwd]; exact (Below.refl _ _).alloc (Nat.le_refl _) _
  have yw11 : w10.heap.size + 1 ≤ w11.heap.size := by rw [hwd]; simp
  rw [← hwd]
  clear hwd
  clear c_S_0 c_S_1 l_S
  have zw11 : w10.heap.size ≤ w11.heap.size := hbb.size
  replace B_a0 : Hid (Blk w11 w.heap.size #[.int .i64 sd0, .slice ao0 np0 cp0, .slice bo0 nc0 cq0] 44) := B_a0.out.old hbb
  replace B_S : Hid (Blk w11 w5.heap.size #[.int .i64 c, .slice sa sk sc] 53) := B_S.out.old hbb
  replace B_x0 : Hid (Blk w11 w7.heap.size #[.int .i64 sd0, .slice (some ⟨gax0, 0, none⟩) np0 np0, .slice (some ⟨gbx0, 0, none⟩) nc0 nc0] 49) := B_x0.out.old hbb
  replace O_x0 : Hid (MeO w6.heap.size w7.heap.size w11 (.slice (some ⟨gax0, 0, none⟩) np0 np0) (.slice (some ⟨gbx0, 0, none⟩) nc0 nc0) np0 ph0 nc0 C0) := O_x0.out.keep (keep_below hbb (by omega))
  replace O_x1 : Hid (OwF w8.heap.size w9.heap.size w11 (.slice (some ⟨w8.heap.size, 0, none⟩) n1 n1) n1 F1) := O_x1.out.keep (keep_below hbb (by omega))
  replace O_g : Hid (OwnL w9.heap.size w10.heap.size w11 c (.slice ga gk gc) np0 (fun i => Rm.fire ph0 C0 F1 nc0 i)) := O_g.out.keep (keep_below hbb (by omega))
  replace D_w : Hid (Below w.heap.size w w11) := D_w.out.trans (hbb.mono (by omega))
  replace D_w6 : Hid (Below w6.heap.size w6 w11) := D_w6.out.trans (hbb.mono (by omega))
  clear hbb
  have B_G := NB
  clear NB
  refine (eqW_any O_g.out.rd (RS.out.later D_w6.out) (fun h => by have := Rm.mfault_ok (fcode_ok (HCC.out.symm.trans h)).1; omega)).mono ?_
  rintro e w12 ⟨rfl, hbb⟩
  have zw12 : w11.heap.size ≤ w12.heap.size := hbb.size
  replace B_a0 : Hid (Blk w12 w.heap.size #[.int .i64 sd0, .slice ao0 np0 cp0, .slice bo0 nc0 cq0] 44) := B_a0.out.old hbb
  replace B_S : Hid (Blk w12 w5.heap.size #[.int .i64 c, .slice sa sk sc] 53) := B_S.out.old hbb
  replace B_x0 : Hid (Blk w12 w7.heap.size #[.int .i64 sd0, .slice (some ⟨gax0, 0, none⟩) np0 np0, .slice (some ⟨gbx0, 0, none⟩) nc0 nc0] 49) := B_x0.out.old hbb
  replace B_G : Hid (Blk w12 w10.heap.size #[.int .i64 c, .slice ga gk gc] 53) := B_G.out.old hbb
  replace O_x0 : Hid (MeO w6.heap.size w7.heap.size w12 (.slice (some ⟨gax0, 0, none⟩) np0 np0) (.slice (some ⟨gbx0, 0, none⟩) nc0 nc0) np0 ph0 nc0 C0) := O_x0.out.keep (keep_below hbb (by omega))
  replace O_x1 : Hid (OwF w8.heap.size w9.heap.size w12 (.slice (some ⟨w8.heap.size, 0, none⟩) n1 n1) n1 F1) := O_x1.out.keep (keep_below hbb (by omega))
  replace O_g : Hid (OwnL w9.heap.size w10.heap.size w12 c (.slice ga gk gc) np0 (fun i => Rm.fire ph0 C0 F1 nc0 i)) := O_g.out.keep (keep_below hbb (by omega))
  replace D_w : Hid (Below w.heap.size w w12) := D_w.out.trans (hbb.mono (by omega))
  replace D_w6 : Hid (Below w6.heap.size w6 w12) := D_w6.out.trans (hbb.mono (by omega))
  clear hbb
  have q_x0_0 : ∀ W, Below w12.heap.size w12 W → W.cell? ⟨w7.heap.size, 0, none⟩ = some (.int .i64 sd0) := fun W h => (B_x0.out.old h).cell (j := 0) rfl
  have q_x0_1 : ∀ W, Below w12.heap.size w12 W → W.cell? ⟨w7.heap.size, 1, none⟩ = some (.slice (some ⟨gax0, 0, none⟩) np0 np0) := fun W h => (B_x0.out.old h).cell (j := 1) rfl
  have q_x0_2 : ∀ W, Below w12.heap.size w12 W → W.cell? ⟨w7.heap.size, 2, none⟩ = some (.slice (some ⟨gbx0, 0, none⟩) nc0 nc0) := fun W h => (B_x0.out.old h).cell (j := 2) rfl
  have q_a0_0 : ∀ W, Below w12.heap.size w12 W → W.cell? ⟨w.heap.size, 0, none⟩ = some (.int .i64 sd0) := fun W h => (B_a0.out.old h).cell (j := 0) rfl
  have q_a0_1 : ∀ W, Below w12.heap.size w12 W → W.cell? ⟨w.heap.size, 1, none⟩ = some (.slice ao0 np0 cp0) := fun W h => (B_a0.out.old h).cell (j := 1) rfl
  have q_a0_2 : ∀ W, Below w12.heap.size w12 W → W.cell? ⟨w.heap.size, 2, none⟩ = some (.slice bo0 nc0 cq0) := fun W h => (B_a0.out.old h).cell (j := 2) rfl
  have QA : ∀ W, Below w12.heap.size w12 W → Hid (RdRow W (.slice ao0 np0 cp0) np0 ph0 ∧ RdV W (.slice bo0 nc0 cq0) nc0 6 (fun i j => ccell (C0 i) j)) := fun W h => ⟨H0.out.1.later (D_w.out.trans (h.mono (by omega))), H0.out.2.later (D_w.out.trans (h.mono (by omega)))⟩
  have QX : ∀ W, Below w12.heap.size w12 W → Hid (Me W (.slice (some ⟨gax0, 0, none⟩) np0 np0) (.slice (some ⟨gbx0, 0, none⟩) nc0 nc0) np0 ph0 nc0 C0) := fun W h => O_x0.out.rd.later h
  go_wp2_with fail
  go_region_held (fun W => Below w12.heap.size w12 W) (go_grown)
    (first | (go_at_call 32; refine Calls.mono (toMe_any (QA _ (by go_grown)).out.1 (QA _ (by go_grown)).out.2 (by omega) (by omega)) ?_; rintro e w13 ⟨gqa, gqb, rfl, hmo, hb1⟩; have hR1 : Below w12.heap.size w12 w13 := box_step (by go_grown) hb1 (Nat.le_refl _)) | (go_at_call 34; refine Calls.mono (eqMe_any (QX _ (by go_grown)).out hmo.rd (by omega) (by omega)) ?_; rintro e w14 ⟨rfl, hb2⟩; have hR2 : Below w12.heap.size w12 w14 := box_step hR1 hb2 (Nat.le_refl _)))
  have hbb : Below w12.heap.size w12 w14 := hR2
  clear hR1 hR2 hmo hb1 hb2 QA QX q_x0_0 q_x0_1 q_x0_2 q_a0_0 q_a0_1 q_a0_2
  have zw14 : w12.heap.size ≤ w14.heap.size := hbb.size
  replace B_a0 : Hid (Blk w14 w.heap.size #[.int .i64 sd0, .slice ao0 np0 cp0, .slice bo0 nc0 cq0] 44) := B_a0.out.old hbb
  replace B_S : Hid (Blk w14 w5.heap.size #[.int .i64 c, .slice sa sk sc] 53) := B_S.out.old hbb
  replace B_x0 : Hid (Blk w14 w7.heap.size #[.int .i64 sd0, .slice (some ⟨gax0, 0, none⟩) np0 np0, .slice (some ⟨gbx0, 0, none⟩) nc0 nc0] 49) := B_x0.out.old hbb
  replace B_G : Hid (Blk w14 w10.heap.size #[.int .i64 c, .slice ga gk gc] 53) := B_G.out.old hbb
  replace O_x0 : Hid (MeO w6.heap.size w7.heap.size w14 (.slice (some ⟨gax0, 0, none⟩) np0 np0) (.slice (some ⟨gbx0, 0, none⟩) nc0 nc0) np0 ph0 nc0 C0) := O_x0.out.keep (keep_below hbb (by omega))
  replace O_x1 : Hid (OwF w8.heap.size w9.heap.size w14 (.slice (some ⟨w8.heap.size, 0, none⟩) n1 n1) n1 F1) := O_x1.out.keep (keep_below hbb (by omega))
  replace O_g : Hid (OwnL w9.heap.size w10.heap.size w14 c (.slice ga gk gc) np0 (fun i => Rm.fire ph0 C0 F1 nc0 i)) := O_g.out.keep (keep_below hbb (by omega))
  replace D_w : Hid (Below w.heap.size w w14) := D_w.out.trans (hbb.mono (by omega))
  replace D_w6 : Hid (Below w6.heap.size w6 w14) := D_w6.out.trans (hbb.mono (by omega))
  clear hbb
  go_wp2_with fail
  refine (toS_any (H1.out.later D_w.out) (by omega)).mono ?_
  rintro e w15 ⟨rfl, hmo, hbb, hzz⟩
  have zw15 : w14.heap.size ≤ w15.heap.size := hbb.size
  replace B_a0 : Hid (Blk w15 w.heap.size #[.int .i64 sd0, .slice ao0 np0 cp0, .slice bo0 nc0 cq0] 44) := B_a0.out.old hbb
  replace B_S : Hid (Blk w15 w5.heap.size #[.int .i64 c, .slice sa sk sc] 53) := B_S.out.old hbb
  replace B_x0 : Hid (Blk w15 w7.heap.size #[.int .i64 sd0, .slice (some ⟨gax0, 0, none⟩) np0 np0, .slice (some ⟨gbx0, 0, none⟩) nc0 nc0] 49) := B_x0.out.old hbb
  replace B_G : Hid (Blk w15 w10.heap.size #[.int .i64 c, .slice ga gk gc] 53) := B_G.out.old hbb
  replace O_x0 : Hid (MeO w6.heap.size w7.heap.size w15 (.slice (some ⟨gax0, 0, none⟩) np0 np0) (.slice (some ⟨gbx0, 0, none⟩) nc0 nc0) np0 ph0 nc0 C0) := O_x0.out.keep (keep_below hbb (by omega))
  replace O_x1 : Hid (OwF w8.heap.size w9.heap.size w15 (.slice (some ⟨w8.heap.size, 0, none⟩) n1 n1) n1 F1) := O_x1.out.keep (keep_below hbb (by omega))
  replace O_g : Hid (OwnL w9.heap.size w10.heap.size w15 c (.slice ga gk gc) np0 (fun i => Rm.fire ph0 C0 F1 nc0 i)) := O_g.out.keep (keep_below hbb (by omega))
  replace D_w : Hid (Below w.heap.size w w15) := D_w.out.trans (hbb.mono (by omega))
  replace D_w6 : Hid (Below w6.heap.size w6 w15) := D_w6.out.trans (hbb.mono (by omega))
  clear hbb
  have O_q : Hid (OwF w14.heap.size w15.heap.size w15 (.slice (some ⟨w14.heap.size, 0, none⟩) n1 n1) n1 F1) := Or.inr ⟨_, _, rfl, Nat.le_refl _, by omega, hmo⟩
  clear hmo hzz
  go_wp2_with fail
  refine (eqS_any O_x1.out.rd O_q.out.rd (by omega)).mono ?_
  rintro e w16 ⟨rfl, q, hqq⟩
  have hbb : Below w15.heap.size w15 w16 := by rw [hqq]; exact below_drewN (Below.refl _ _) q
  clear hqq
  clear O_q
  have zw16 : w15.heap.size ≤ w16.heap.size := hbb.size
  replace B_a0 : Hid (Blk w16 w.heap.size #[.int .i64 sd0, .slice ao0 np0 cp0, .slice bo0 nc0 cq0] 44) := B_a0.out.old hbb
  replace B_S : Hid (Blk w16 w5.heap.size #[.int .i64 c, .slice sa sk sc] 53) := B_S.out.old hbb
  replace B_x0 : Hid (Blk w16 w7.heap.size #[.int .i64 sd0, .slice (some ⟨gax0, 0, none⟩) np0 np0, .slice (some ⟨gbx0, 0, none⟩) nc0 nc0] 49) := B_x0.out.old hbb
  replace B_G : Hid (Blk w16 w10.heap.size #[.int .i64 c, .slice ga gk gc] 53) := B_G.out.old hbb
  replace O_x0 : Hid (MeO w6.heap.size w7.heap.size w16 (.slice (some ⟨gax0, 0, none⟩) np0 np0) (.slice (some ⟨gbx0, 0, none⟩) nc0 nc0) np0 ph0 nc0 C0) := O_x0.out.keep (keep_below hbb (by omega))
  replace O_x1 : Hid (OwF w8.heap.size w9.heap.size w16 (.slice (some ⟨w8.heap.size, 0, none⟩) n1 n1) n1 F1) := O_x1.out.keep (keep_below hbb (by omega))
  replace O_g : Hid (OwnL w9.heap.size w10.heap.size w16 c (.slice ga gk gc) np0 (fun i => Rm.fire ph0 C0 F1 nc0 i)) := O_g.out.keep (keep_below hbb (by omega))
  replace D_w : Hid (Below w.heap.size w w16) := D_w.out.trans (hbb.mono (by omega))
  replace D_w6 : Hid (Below w6.heap.size w6 w16) := D_w6.out.trans (hbb.mono (by omega))
  clear hbb
  have c_x0_0 := B_x0.out.cell (j := 0) rfl
  have c_x0_1 := B_x0.out.cell (j := 1) rfl
  have c_x0_2 := B_x0.out.cell (j := 2) rfl
  have l_x0 := B_x0.out.lt
  go_wp2_with fail
  refine (markMe_any 1 O_x0.out (by omega) (by omega) (by omega) (by omega) (by omega) (by omega)).mono ?_
  rintro e w17 ⟨rfl, _, hww⟩
  clear c_x0_0 c_x0_1 c_x0_2 l_x0
  have zw17 : w16.heap.size ≤ w17.heap.size := hww.below.size
  replace B_a0 : Hid (Blk w17 w.heap.size #[.int .i64 sd0, .slice ao0 np0 cp0, .slice bo0 nc0 cq0] 44) := B_a0.out.within hww (by omega)
  replace B_S : Hid (Blk w17 w5.heap.size #[.int .i64 c, .slice sa sk sc] 53) := B_S.out.within hww (by omega)
  replace B_x0 : Hid (Blk w17 w7.heap.size #[.int .i64 sd0, .slice (some ⟨gax0, 0, none⟩) np0 np0, .slice (some ⟨gbx0, 0, none⟩) nc0 nc0] 49) := B_x0.out.within hww (by omega)
  replace B_G : Hid (Blk w17 w10.heap.size #[.int .i64 c, .slice ga gk gc] 53) := B_G.out.within hww (by omega)
  replace O_x1 : Hid (OwF w8.heap.size w9.heap.size w17 (.slice (some ⟨w8.heap.size, 0, none⟩) n1 n1) n1 F1) := O_x1.out.keep (keep_apart hww (by omega) (by omega))
  replace O_g : Hid (OwnL w9.heap.size w10.heap.size w17 c (.slice ga gk gc) np0 (fun i => Rm.fire ph0 C0 F1 nc0 i)) := O_g.out.keep (keep_apart hww (by omega) (by omega))
  replace D_w : Hid (Below w.heap.size w w17) := D_w.out.trans (hww.below.mono (by omega))
  replace D_w6 : Hid (Below w6.heap.size w6 w17) := D_w6.out.trans (hww.below.mono (by omega))
  clear hww O_x0
  obtain ⟨k1, hk⟩ : ∃ k : Int, k = mK (1 + np0) nc0 := ⟨_, rfl⟩
  have hk1a : 0 ≤ k1 := by rw [hk]; unfold mK; omega
  have hk1b : k1 ≤ 1 + 8000000 := by rw [hk]; unfold mK; omega
  rw [← hk]
  clear hk
  go_wp2_with fail
  refine (markF_any k1 O_x1.out (by omega) (by omega) (by omega)).mono ?_
  rintro e w18 ⟨rfl, _, hww, _⟩
  have zw18 : w17.heap.size ≤ w18.heap.size := hww.below.size
  replace B_a0 : Hid (Blk w18 w.heap.size #[.int .i64 sd0, .slice ao0 np0 cp0, .slice bo0 nc0 cq0] 44) := B_a0.out.within hww (by omega)
  replace B_S : Hid (Blk w18 w5.heap.size #[.int .i64 c, .slice sa sk sc] 53) := B_S.out.within hww (by omega)
  replace B_x0 : Hid (Blk w18 w7.heap.size #[.int .i64 sd0, .slice (some ⟨gax0, 0, none⟩) np0 np0, .slice (some ⟨gbx0, 0, none⟩) nc0 nc0] 49) := B_x0.out.within hww (by omega)
  replace B_G : Hid (Blk w18 w10.heap.size #[.int .i64 c, .slice ga gk gc] 53) := B_G.out.within hww (by omega)
  replace O_g : Hid (OwnL w9.heap.size w10.heap.size w18 c (.slice ga gk gc) np0 (fun i => Rm.fire ph0 C0 F1 nc0 i)) := O_g.out.keep (keep_apart hww (by omega) (by omega))
  replace D_w : Hid (Below w.heap.size w w18) := D_w.out.trans (hww.below.mono (by omega))
  replace D_w6 : Hid (Below w6.heap.size w6 w18) := D_w6.out.trans (hww.below.mono (by omega))
  clear hww O_x1
  obtain ⟨k2, hk⟩ : ∃ k : Int, k = k1 + n1 := ⟨_, rfl⟩
  have hk2a : 0 ≤ k2 := by rw [hk]; omega
  have hk2b : k2 ≤ k1 + 8000000 := by rw [hk]; omega
  rw [← hk]
  clear hk
  have c_G_0 := B_G.out.cell (j := 0) rfl
  have c_G_1 := B_G.out.cell (j := 1) rfl
  have l_G := B_G.out.lt
  have c_S_0 := B_S.out.cell (j := 0) rfl
  have c_S_1 := B_S.out.cell (j := 1) rfl
  have l_S := B_S.out.lt
  go_wp2_with fail
  refine (eqW_any O_g.out.rd (RS.out.later D_w6.out) (fun h => by have := Rm.mfault_ok (fcode_ok (HCC.out.symm.trans h)).1; omega)).mono ?_
  rintro e w19 ⟨rfl, hbb⟩
  clear c_G_0 c_G_1 l_G c_S_0 c_S_1 l_S
  have zw19 : w18.heap.size ≤ w19.heap.size := hbb.size
  replace B_a0 : Hid (Blk w19 w.heap.size #[.int .i64 sd0, .slice ao0 np0 cp0, .slice bo0 nc0 cq0] 44) := B_a0.out.old hbb
  replace B_S : Hid (Blk w19 w5.heap.size #[.int .i64 c, .slice sa sk sc] 53) := B_S.out.old hbb
  replace B_x0 : Hid (Blk w19 w7.heap.size #[.int .i64 sd0, .slice (some ⟨gax0, 0, none⟩) np0 np0, .slice (some ⟨gbx0, 0, none⟩) nc0 nc0] 49) := B_x0.out.old hbb
  replace B_G : Hid (Blk w19 w10.heap.size #[.int .i64 c, .slice ga gk gc] 53) := B_G.out.old hbb
  replace O_g : Hid (OwnL w9.heap.size w10.heap.size w19 c (.slice ga gk gc) np0 (fun i => Rm.fire ph0 C0 F1 nc0 i)) := O_g.out.keep (keep_below hbb (by omega))
  replace D_w : Hid (Below w.heap.size w w19) := D_w.out.trans (hbb.mono (by omega))
  replace D_w6 : Hid (Below w6.heap.size w6 w19) := D_w6.out.trans (hbb.mono (by omega))
  clear hbb
  have c_G_0 := B_G.out.cell (j := 0) rfl
  have c_G_1 := B_G.out.cell (j := 1) rfl
  have l_G := B_G.out.lt
  go_wp2_with fail
  refine (markW_any O_g.out (fun h => by have := Rm.mfault_ok (fcode_ok (HCC.out.symm.trans h)).1; omega) (by omega) (by omega)).mono ?_
  rintro e w20 ⟨r, rfl, hmk, hww⟩
  clear c_G_0 c_G_1 l_G
  have hr0 : 0 ≤ r := hmk.pos
  have zw20 : w19.heap.size ≤ w20.heap.size := hww.below.size
  replace B_a0 : Hid (Blk w20 w.heap.size #[.int .i64 sd0, .slice ao0 np0 cp0, .slice bo0 nc0 cq0] 44) := B_a0.out.within hww (by omega)
  replace B_S : Hid (Blk w20 w5.heap.size #[.int .i64 c, .slice sa sk sc] 53) := B_S.out.within hww (by omega)
  replace B_x0 : Hid (Blk w20 w7.heap.size #[.int .i64 sd0, .slice (some ⟨gax0, 0, none⟩) np0 np0, .slice (some ⟨gbx0, 0, none⟩) nc0 nc0] 49) := B_x0.out.within hww (by omega)
  replace B_G : Hid (Blk w20 w10.heap.size #[.int .i64 c, .slice ga gk gc] 53) := B_G.out.within hww (by omega)
  replace D_w : Hid (Below w.heap.size w w20) := D_w.out.trans (hww.below.mono (by omega))
  replace D_w6 : Hid (Below w6.heap.size w6 w20) := D_w6.out.trans (hww.below.mono (by omega))
  replace O_g : Hid (MkdL w9.heap.size w10.heap.size w20 c (.slice ga gk gc) np0 r) := hmk
  clear hmk hww
  have c_G_0 := B_G.out.cell (j := 0) rfl
  have c_G_1 := B_G.out.cell (j := 1) rfl
  have l_G := B_G.out.lt
  go_wp2_with fail
  refine (heldW_any O_g.out (fun h => by have := Rm.mfault_ok (fcode_ok (HCC.out.symm.trans h)).1; omega) (by omega)).mono ?_
  rintro e w21 ⟨rfl, hbb⟩
  clear c_G_0 c_G_1 l_G
  have zw21 : w20.heap.size ≤ w21.heap.size := hbb.size
  replace B_a0 : Hid (Blk w21 w.heap.size #[.int .i64 sd0, .slice ao0 np0 cp0, .slice bo0 nc0 cq0] 44) := B_a0.out.old hbb
  replace B_S : Hid (Blk w21 w5.heap.size #[.int .i64 c, .slice sa sk sc] 53) := B_S.out.old hbb
  replace B_x0 : Hid (Blk w21 w7.heap.size #[.int .i64 sd0, .slice (some ⟨gax0, 0, none⟩) np0 np0, .slice (some ⟨gbx0, 0, none⟩) nc0 nc0] 49) := B_x0.out.old hbb
  replace B_G : Hid (Blk w21 w10.heap.size #[.int .i64 c, .slice ga gk gc] 53) := B_G.out.old hbb
  replace O_g : Hid (MkdL w9.heap.size w10.heap.size w21 c (.slice ga gk gc) np0 r) := O_g.out.keep (keep_below hbb (by omega))
  replace D_w : Hid (Below w.heap.size w w21) := D_w.out.trans (hbb.mono (by omega))
  replace D_w6 : Hid (Below w6.heap.size w6 w21) := D_w6.out.trans (hbb.mono (by omega))
  clear hbb
  have c_a0_0 := B_a0.out.cell (j := 0) rfl
  have c_a0_1 := B_a0.out.cell (j := 1) rfl
  have c_a0_2 := B_a0.out.cell (j := 2) rfl
  have l_a0 := B_a0.out.lt
  go_wp2_with fail
  refine (toMe_any (H0.out.1.later D_w.out) (H0.out.2.later D_w.out) (by omega) (by omega)).mono ?_
  rintro e w22 ⟨gah0, gbh0, rfl, hmo, hbb⟩
  clear c_a0_0 c_a0_1 c_a0_2 l_a0
  have zw22 : w21.heap.size ≤ w22.heap.size := hbb.size
  replace B_a0 : Hid (Blk w22 w.heap.size #[.int .i64 sd0, .slice ao0 np0 cp0, .slice bo0 nc0 cq0] 44) := B_a0.out.old hbb
  replace B_S : Hid (Blk w22 w5.heap.size #[.int .i64 c, .slice sa sk sc] 53) := B_S.out.old hbb
  replace B_x0 : Hid (Blk w22 w7.heap.size #[.int .i64 sd0, .slice (some ⟨gax0, 0, none⟩) np0 np0, .slice (some ⟨gbx0, 0, none⟩) nc0 nc0] 49) := B_x0.out.old hbb
  replace B_G : Hid (Blk w22 w10.heap.size #[.int .i64 c, .slice ga gk gc] 53) := B_G.out.old hbb
  replace O_g : Hid (MkdL w9.heap.size w10.heap.size w22 c (.slice ga gk gc) np0 r) := O_g.out.keep (keep_below hbb (by omega))
  replace D_w : Hid (Below w.heap.size w w22) := D_w.out.trans (hbb.mono (by omega))
  replace D_w6 : Hid (Below w6.heap.size w6 w22) := D_w6.out.trans (hbb.mono (by omega))
  clear hbb
  have O_h0 : Hid (MeO w21.heap.size w22.heap.size w22 (.slice (some ⟨gah0, 0, none⟩) np0 np0) (.slice (some ⟨gbh0, 0, none⟩) nc0 nc0) np0 ph0 nc0 C0) := hmo
  clear hmo
  go_wp2_with fail
  refine (toS_any (H1.out.later D_w.out) (by omega)).mono ?_
  rintro e w23 ⟨rfl, hmo, hbb, hzz⟩
  have zw23 : w22.heap.size ≤ w23.heap.size := hbb.size
  replace B_a0 : Hid (Blk w23 w.heap.size #[.int .i64 sd0, .slice ao0 np0 cp0, .slice bo0 nc0 cq0] 44) := B_a0.out.old hbb
  replace B_S : Hid (Blk w23 w5.heap.size #[.int .i64 c, .slice sa sk sc] 53) := B_S.out.old hbb
  replace B_x0 : Hid (Blk w23 w7.heap.size #[.int .i64 sd0, .slice (some ⟨gax0, 0, none⟩) np0 np0, .slice (some ⟨gbx0, 0, none⟩) nc0 nc0] 49) := B_x0.out.old hbb
  replace B_G : Hid (Blk w23 w10.heap.size #[.int .i64 c, .slice ga gk gc] 53) := B_G.out.old hbb
  replace O_g : Hid (MkdL w9.heap.size w10.heap.size w23 c (.slice ga gk gc) np0 r) := O_g.out.keep (keep_below hbb (by omega))
  replace O_h0 : Hid (MeO w21.heap.size w22.heap.size w23 (.slice (some ⟨gah0, 0, none⟩) np0 np0) (.slice (some ⟨gbh0, 0, none⟩) nc0 nc0) np0 ph0 nc0 C0) := O_h0.out.keep (keep_below hbb (by omega))
  replace D_w : Hid (Below w.heap.size w w23) := D_w.out.trans (hbb.mono (by omega))
  replace D_w6 : Hid (Below w6.heap.size w6 w23) := D_w6.out.trans (hbb.mono (by omega))
  clear hbb
  have O_h1 : Hid (OwF w22.heap.size w23.heap.size w23 (.slice (some ⟨w22.heap.size, 0, none⟩) n1 n1) n1 F1) := Or.inr ⟨_, _, rfl, Nat.le_refl _, by omega, hmo⟩
  clear hmo hzz
  go_wp2_with fail
  refine (iFM_any O_h0.out.rd O_h1.out.rd (by omega) (by omega) (by omega) HCC.out).mono ?_
  rintro e w24 ⟨hv, rfl, hoo, hbb⟩
  obtain ⟨ha, hk, hc, ehv⟩ : ∃ ao k cap, hv = .slice ao k cap := OutL.shape hoo.rd
  subst ehv
  have zw24 : w23.heap.size ≤ w24.heap.size := hbb.size
  replace B_a0 : Hid (Blk w24 w.heap.size #[.int .i64 sd0, .slice ao0 np0 cp0, .slice bo0 nc0 cq0] 44) := B_a0.out.old hbb
  replace B_S : Hid (Blk w24 w5.heap.size #[.int .i64 c, .slice sa sk sc] 53) := B_S.out.old hbb
  replace B_x0 : Hid (Blk w24 w7.heap.size #[.int .i64 sd0, .slice (some ⟨gax0, 0, none⟩) np0 np0, .slice (some ⟨gbx0, 0, none⟩) nc0 nc0] 49) := B_x0.out.old hbb
  replace B_G : Hid (Blk w24 w10.heap.size #[.int .i64 c, .slice ga gk gc] 53) := B_G.out.old hbb
  replace O_g : Hid (MkdL w9.heap.size w10.heap.size w24 c (.slice ga gk gc) np0 r) := O_g.out.keep (keep_below hbb (by omega))
  replace O_h0 : Hid (MeO w21.heap.size w22.heap.size w24 (.slice (some ⟨gah0, 0, none⟩) np0 np0) (.slice (some ⟨gbh0, 0, none⟩) nc0 nc0) np0 ph0 nc0 C0) := O_h0.out.keep (keep_below hbb (by omega))
  replace O_h1 : Hid (OwF w22.heap.size w23.heap.size w24 (.slice (some ⟨w22.heap.size, 0, none⟩) n1 n1) n1 F1) := O_h1.out.keep (keep_below hbb (by omega))
  replace D_w : Hid (Below w.heap.size w w24) := D_w.out.trans (hbb.mono (by omega))
  replace D_w6 : Hid (Below w6.heap.size w6 w24) := D_w6.out.trans (hbb.mono (by omega))
  have O_h : Hid (OwnL w23.heap.size w24.heap.size w24 c (.slice ha hk hc) np0 (fun i => Rm.fire ph0 C0 F1 nc0 i)) := hoo
  clear hoo hbb
  have c_S_0 := B_S.out.cell (j := 0) rfl
  have c_S_1 := B_S.out.cell (j := 1) rfl
  have l_S := B_S.out.lt
  go_wp2_with fail
  obtain ⟨w25, hwd⟩ : ∃ W, W = w24.alloc (.cells #[.int .i64 c, .slice ha hk hc] 53) := ⟨_, rfl⟩
  have NB : Hid (Blk w25 w24.heap.size #[.int .i64 c, .slice ha hk hc] 53) := by rw [hwd]; exact Blk.new rfl
  have hbb : Below w24.heap.size w24 w25 := by rw [hwd]; exact (Below.refl _ _).alloc (Nat.le_refl _) _
  have yw25 : w24.heap.size + 1 ≤ w25.heap.size := by rw [hwd]; simp
  rw [← hwd]
  clear hwd
  clear c_S_0 c_S_1 l_S
  have zw25 : w24.heap.size ≤ w25.heap.size := hbb.size
  replace B_a0 : Hid (Blk w25 w.heap.size #[.int .i64 sd0, .slice ao0 np0 cp0, .slice bo0 nc0 cq0] 44) := B_a0.out.old hbb
  replace B_S : Hid (Blk w25 w5.heap.size #[.int .i64 c, .slice sa sk sc] 53) := B_S.out.old hbb
  replace B_x0 : Hid (Blk w25 w7.heap.size #[.int .i64 sd0, .slice (some ⟨gax0, 0, none⟩) np0 np0, .slice (some ⟨gbx0, 0, none⟩) nc0 nc0] 49) := B_x0.out.old hbb
  replace B_G : Hid (Blk w25 w10.heap.size #[.int .i64 c, .slice ga gk gc] 53) := B_G.out.old hbb
  replace O_g : Hid (MkdL w9.heap.size w10.heap.size w25 c (.slice ga gk gc) np0 r) := O_g.out.keep (keep_below hbb (by omega))
  replace O_h0 : Hid (MeO w21.heap.size w22.heap.size w25 (.slice (some ⟨gah0, 0, none⟩) np0 np0) (.slice (some ⟨gbh0, 0, none⟩) nc0 nc0) np0 ph0 nc0 C0) := O_h0.out.keep (keep_below hbb (by omega))
  replace O_h1 : Hid (OwF w22.heap.size w23.heap.size w25 (.slice (some ⟨w22.heap.size, 0, none⟩) n1 n1) n1 F1) := O_h1.out.keep (keep_below hbb (by omega))
  replace O_h : Hid (OwnL w23.heap.size w24.heap.size w25 c (.slice ha hk hc) np0 (fun i => Rm.fire ph0 C0 F1 nc0 i)) := O_h.out.keep (keep_below hbb (by omega))
  replace D_w : Hid (Below w.heap.size w w25) := D_w.out.trans (hbb.mono (by omega))
  replace D_w6 : Hid (Below w6.heap.size w6 w25) := D_w6.out.trans (hbb.mono (by omega))
  clear hbb
  have B_H := NB
  clear NB
  refine (eqW_any O_h.out.rd (RS.out.later D_w6.out) (fun h => by have := Rm.mfault_ok (fcode_ok (HCC.out.symm.trans h)).1; omega)).mono ?_
  rintro e w26 ⟨rfl, hbb⟩
  have zw26 : w25.heap.size ≤ w26.heap.size := hbb.size
  replace B_a0 : Hid (Blk w26 w.heap.size #[.int .i64 sd0, .slice ao0 np0 cp0, .slice bo0 nc0 cq0] 44) := B_a0.out.old hbb
  replace B_S : Hid (Blk w26 w5.heap.size #[.int .i64 c, .slice sa sk sc] 53) := B_S.out.old hbb
  replace B_x0 : Hid (Blk w26 w7.heap.size #[.int .i64 sd0, .slice (some ⟨gax0, 0, none⟩) np0 np0, .slice (some ⟨gbx0, 0, none⟩) nc0 nc0] 49) := B_x0.out.old hbb
  replace B_G : Hid (Blk w26 w10.heap.size #[.int .i64 c, .slice ga gk gc] 53) := B_G.out.old hbb
  replace B_H : Hid (Blk w26 w24.heap.size #[.int .i64 c, .slice ha hk hc] 53) := B_H.out.old hbb
  replace O_g : Hid (MkdL w9.heap.size w10.heap.size w26 c (.slice ga gk gc) np0 r) := O_g.out.keep (keep_below hbb (by omega))
  replace O_h0 : Hid (MeO w21.heap.size w22.heap.size w26 (.slice (some ⟨gah0, 0, none⟩) np0 np0) (.slice (some ⟨gbh0, 0, none⟩) nc0 nc0) np0 ph0 nc0 C0) := O_h0.out.keep (keep_below hbb (by omega))
  replace O_h1 : Hid (OwF w22.heap.size w23.heap.size w26 (.slice (some ⟨w22.heap.size, 0, none⟩) n1 n1) n1 F1) := O_h1.out.keep (keep_below hbb (by omega))
  replace O_h : Hid (OwnL w23.heap.size w24.heap.size w26 c (.slice ha hk hc) np0 (fun i => Rm.fire ph0 C0 F1 nc0 i)) := O_h.out.keep (keep_below hbb (by omega))
  replace D_w : Hid (Below w.heap.size w w26) := D_w.out.trans (hbb.mono (by omega))
  replace D_w6 : Hid (Below w6.heap.size w6 w26) := D_w6.out.trans (hbb.mono (by omega))
  clear hbb
  have c_G_0 := B_G.out.cell (j := 0) rfl
  have c_G_1 := B_G.out.cell (j := 1) rfl
  have l_G := B_G.out.lt
  go_wp2_with fail
  refine (heldW_any O_g.out (fun h => by have := Rm.mfault_ok (fcode_ok (HCC.out.symm.trans h)).1; omega) (by omega)).mono ?_
  rintro e w27 ⟨rfl, hbb⟩
  clear c_G_0 c_G_1 l_G
  have zw27 : w26.heap.size ≤ w27.heap.size := hbb.size
  replace B_a0 : Hid (Blk w27 w.heap.size #[.int .i64 sd0, .slice ao0 np0 cp0, .slice bo0 nc0 cq0] 44) := B_a0.out.old hbb
  replace B_S : Hid (Blk w27 w5.heap.size #[.int .i64 c, .slice sa sk sc] 53) := B_S.out.old hbb
  replace B_x0 : Hid (Blk w27 w7.heap.size #[.int .i64 sd0, .slice (some ⟨gax0, 0, none⟩) np0 np0, .slice (some ⟨gbx0, 0, none⟩) nc0 nc0] 49) := B_x0.out.old hbb
  replace B_G : Hid (Blk w27 w10.heap.size #[.int .i64 c, .slice ga gk gc] 53) := B_G.out.old hbb
  replace B_H : Hid (Blk w27 w24.heap.size #[.int .i64 c, .slice ha hk hc] 53) := B_H.out.old hbb
  replace O_g : Hid (MkdL w9.heap.size w10.heap.size w27 c (.slice ga gk gc) np0 r) := O_g.out.keep (keep_below hbb (by omega))
  replace O_h0 : Hid (MeO w21.heap.size w22.heap.size w27 (.slice (some ⟨gah0, 0, none⟩) np0 np0) (.slice (some ⟨gbh0, 0, none⟩) nc0 nc0) np0 ph0 nc0 C0) := O_h0.out.keep (keep_below hbb (by omega))
  replace O_h1 : Hid (OwF w22.heap.size w23.heap.size w27 (.slice (some ⟨w22.heap.size, 0, none⟩) n1 n1) n1 F1) := O_h1.out.keep (keep_below hbb (by omega))
  replace O_h : Hid (OwnL w23.heap.size w24.heap.size w27 c (.slice ha hk hc) np0 (fun i => Rm.fire ph0 C0 F1 nc0 i)) := O_h.out.keep (keep_below hbb (by omega))
  replace D_w : Hid (Below w.heap.size w w27) := D_w.out.trans (hbb.mono (by omega))
  replace D_w6 : Hid (Below w6.heap.size w6 w27) := D_w6.out.trans (hbb.mono (by omega))
  clear hbb
  go_wp2
  go_ret
  exact ⟨rfl, D_w.out⟩

set_option maxRecDepth 100000 in
theorem lifted (os : Os) (started : os.Started) (H : Type) (enc : TypeId × Value → H) :
    ReturnsInHanded {} Try.checked os 6 .any (Rows.fnExactFireMeshSpec.pre6 enc Try.prog Try.f6 Rows.fnExactFireMeshRow.domain false) (Rows.fnExactFireMeshSpec.post enc Try.prog Try.f6 false true false false) := by
  refine returnsInHanded_of_change (C := Try.checked) own started (by kernel_rfl) Try.func6
    (ChangeSpec.witness6 (enc := enc) (C := Try.checked) false ⟨#[], #[.agg #[.int .i64 0, .slice none 0 0, .slice none 0 0], .slice none 0 0], []⟩ 8 (by kernel_rfl) (by kernel_rfl) (by kernel_rfl) (by kernel_rfl)) ?_
  intro W base args ds gs before hval0 hW hcnd _
  have hval : ∀ (j : Nat) t v, Try.f6.params[j]? = some t → args[j]? = some v → Value.okWide Try.prog W .any base t v := hval0
  have hW' := hW
  obtain ⟨p, q, hA0, hV, rfl, hfz, hnd⟩ := hW
  have hA : DataW.TrodAll enc Try.prog W 0 (fun _ => true) true Try.f6.params.toList args.toList ds p := hA0
  rw [Try.params6] at hA hval
  obtain ⟨v0, vs0, d0, ds0, p0, q0, hargs, rfl, rfl, h0, r0⟩ := trodAll_cons hA
  obtain ⟨v1, vs1, d1, ds1, p1, q1, rfl, rfl, rfl, h1, r1⟩ := trodAll_cons r0
  obtain ⟨rfl, rfl, rfl⟩ := trodAll_nil r1
  obtain rfl : args = #[v0, v1] := by cases args; simp_all
  obtain ⟨rfl, rfl⟩ := trodVars_none hV
  have k0 := h0
  have lt0 : ∀ x ∈ p0, x.block < W.heap.size := by obtain ⟨m, hm⟩ := k0; exact DataW.trod_lt m _ _ _ hm
  obtain ⟨sd0, ao0, bo0, np0, cp0, nc0, cq0, ph0, C0, rfl, ra0, rb0, ba0, bb0⟩ := open_mesh (hval 0 44 v0 rfl rfl) h0
  have k1 := h1
  have lt1 : ∀ x ∈ p1, x.block < W.heap.size := by obtain ⟨m, hm⟩ := k1; exact DataW.trod_lt m _ _ _ hm
  obtain ⟨n1, F1, R1, nb1⟩ := open_row (hval 1 32 v1 rfl rfl) h1
  clear hA0 hval0
  refine (walk ra0 rb0 ba0 bb0 R1 nb1).mono fun e W' ⟨he, bel⟩ => ?_
  subst he
  exact ⟨_, rfl, _, _, _, [], _, [], hW', trodAll_mk1 (shut_bool Try.underlying4 _), (trodAll_cons_mk (Below.trod laidOut (by kernel_rfl) (of_decide_eq_true (by kernel_rfl)) k0 bel lt0) (trodAll_cons_mk (Below.trod laidOut (by kernel_rfl) (of_decide_eq_true (by kernel_rfl)) k1 bel lt1) trodAll_mk0)), rfl, bel.frame _, fun h => by cases h⟩

theorem over : Rows.fnExactFireMeshRow.holds Try.pinned (OpenSpec.ofChange Rows.fnExactFireMeshSpec) :=
  OpenClaim.holds_of_wide 6 Try.f6 rfl rfl rfl rfl rfl rfl rfl ⟨rfl, rfl, rfl, rfl, rfl⟩ rfl rfl rfl rfl rfl (by kernel_rfl) Try.func6 (by kernel_rfl)
    (of_decide_eq_true (by kernel_rfl)) (by unfold Func.isWrapper; first | (rw [if_pos (by decide +kernel)]; kernel_rfl) | (rw [if_neg (by decide +kernel)]; exact ⟨rfl, rfl⟩))
    (fun os started H enc _ => lifted os started H enc)
end Go.Proofs.Ytboppklcmdfphaa.LawFireMesh
namespace Go.Proofs.Ytboppklcmdfphaa
theorem fireMesh_holds : Rows.FnExactFireMeshSaid := LawFireMesh.over
#print axioms fireMesh_holds
end Go.Proofs.Ytboppklcmdfphaa
