/- At every argument the program's ProgramMesh answers as the specification, code and mesh, where the law's own bound on the sizes does not answer first; what it answers owns its memory; nothing that was there is changed. -/
import Derived.Test.YtboppklcmdfphaaArg
import Derived.Test.YtboppklcmdfphaaPs
import Derived.Test.YtboppklcmdfphaaAux
import Derived.Handy
import Derived.Deep.RegionHeld3
import Derived.Deep.DeepCutAuto
namespace Go.Proofs.Ytboppklcmdfphaa.LawProgramMesh
open Go.ChangeShapes Go.WideShapes Go.ChangeAt Go.RowKit Go.Joins
set_option linter.unusedVariables false

set_option maxHeartbeats 4000000 in
set_option maxRecDepth 20000 in
theorem walk {w : World} {v0 : Value} {n0 : Nat} {L0 : Nat → Nat} {F0 : Rm.Mx} (h0 : RdMat w v0 n0 L0 F0) (hn0 : n0 ≤ 9223372036854775807) (hL0 : ∀ k, k < n0 → L0 k ≤ 9223372036854775807) :
    Calls Try.prog 8 #[v0] w fun e w' => e = .returned (.bool true) ∧ Below w.heap.size w w' := by
  have H0 : Hid (RdMat w v0 n0 L0 F0 ∧ ∀ k, k < n0 → L0 k ≤ 9223372036854775807) := ⟨h0, hL0⟩
  clear h0 hL0
  have D_w : Hid (Below w.heap.size w w) := Below.refl _ _
  have zw : w.heap.size ≤ w.heap.size := Nat.le_refl _
  go_enter Try.func8, Try.ntmps8
  go_wp2_with fail
  refine (szSS_any (H0.out.1.later D_w.out) 1048576 (by omega) (by omega) hn0 H0.out.2).mono ?_
  rintro e wq ⟨left0, rfl, rfl, ht⟩
  have HT : Hid (Told n0 L0 1048576 left0) := ht
  clear ht
  by_cases hr0 : left0 < 0
  · go_wp2
    go_ret
    exact ⟨rfl, D_w.out⟩
  have hs0 := told_no HT.out hr0
  have HL0 : Hid (∀ k, k < n0 → L0 k ≤ 1000000000000) := fun k hk => by have := le_Sm (L := L0) hk; omega
  have hm0 : n0 ≤ 1048576 := by omega
  have hq0 : Sm L0 n0 ≤ 1048576 := by omega
  clear HT hs0
  have hb1 : pnp n0 L0 F0 ≤ 24 := pnp_le n0 L0 F0
  have hb2 : pnc n0 L0 F0 ≤ 576 := pnc_le n0 L0 F0
  go_wp2_with fail
  refine (toSS_any (H0.out.1.later D_w.out) (by omega) HL0.out).mono ?_
  rintro e w1 ⟨rfl, hmo, hbb⟩
  have zw1 : w.heap.size ≤ w1.heap.size := hbb.size
  replace D_w : Hid (Below w.heap.size w w1) := D_w.out.trans (hbb.mono (by omega))
  clear hbb
  have O_c0 : Hid (Mat w.heap.size w1.heap.size w1 (newLie w.heap.size n0 L0) n0 L0 F0) := hmo
  clear hmo
  go_wp2_with fail
  refine (sProg_any _ 0 _ O_c0.out.rd (by omega) HL0.out).mono ?_
  rintro e w2 ⟨s0, s1, rfl, hoo, hbb⟩
  obtain ⟨sa, sc, sb, sq, es0, es1⟩ := (hoo.rd).shape
  subst es0
  subst es1
  have RS0 : Hid (Me w2 (.slice sa (pnp n0 L0 F0) sc) (.slice sb (pnc n0 L0 F0) sq) (pnp n0 L0 F0) (pph n0 L0 F0) (pnc n0 L0 F0) (pC n0 L0 F0)) := hoo.rd
  clear hoo
  have zw2 : w1.heap.size ≤ w2.heap.size := hbb.size
  replace O_c0 : Hid (Mat w.heap.size w1.heap.size w2 (newLie w.heap.size n0 L0) n0 L0 F0) := O_c0.out.keep (keep_below hbb (by omega))
  replace D_w : Hid (Below w.heap.size w w2) := D_w.out.trans (hbb.mono (by omega))
  clear hbb
  clear O_c0
  go_wp2_with fail
  obtain ⟨w3, hwd⟩ : ∃ W, W = w2.alloc (.cells #[.int .i64 (pcd n0 L0 F0), .int .i64 (psd n0 L0 F0), .slice sa (pnp n0 L0 F0) sc, .slice sb (pnc n0 L0 F0) sq] 61) := ⟨_, rfl⟩
  have NB : Hid (Blk w3 w2.heap.size #[.int .i64 (pcd n0 L0 F0), .int .i64 (psd n0 L0 F0), .slice sa (pnp n0 L0 F0) sc, .slice sb (pnc n0 L0 F0) sq] 61) := by rw [hwd]; exact Blk.new rfl
  have hbb : Below w2.heap.size w2 w3 := by rw [hwd]; exact (Below.refl _ _).alloc (Nat.le_refl _) _
  have yw3 : w2.heap.size + 1 ≤ w3.heap.size := by rw [hwd]; simp
  have HWD : Hid (w3 = w2.alloc (.cells #[.int .i64 (pcd n0 L0 F0), .int .i64 (psd n0 L0 F0), .slice sa (pnp n0 L0 F0) sc, .slice sb (pnc n0 L0 F0) sq] 61)) := hwd
  rw [← hwd]
  clear hwd
  have zw3 : w2.heap.size ≤ w3.heap.size := hbb.size
  replace D_w : Hid (Below w.heap.size w w3) := D_w.out.trans (hbb.mono (by omega))
  clear hbb
  have B_S := NB
  clear NB
  have RS : Hid (Me w3 (.slice sa (pnp n0 L0 F0) sc) (.slice sb (pnc n0 L0 F0) sq) (pnp n0 L0 F0) (pph n0 L0 F0) (pnc n0 L0 F0) (pC n0 L0 F0)) := RS0.out.later (show Below w2.heap.size w2 w3 from by rw [HWD.out]; exact (Below.refl _ _).alloc (Nat.le_refl _) _)
  clear RS0 HWD
  have D_w3 : Hid (Below w3.heap.size w3 w3) := Below.refl _ _
  refine (toSS_any (H0.out.1.later D_w.out) (by omega) HL0.out).mono ?_
  rintro e w4 ⟨rfl, hmo, hbb⟩
  have zw4 : w3.heap.size ≤ w4.heap.size := hbb.size
  replace B_S : Hid (Blk w4 w2.heap.size #[.int .i64 (pcd n0 L0 F0), .int .i64 (psd n0 L0 F0), .slice sa (pnp n0 L0 F0) sc, .slice sb (pnc n0 L0 F0) sq] 61) := B_S.out.old hbb
  replace D_w : Hid (Below w.heap.size w w4) := D_w.out.trans (hbb.mono (by omega))
  replace D_w3 : Hid (Below w3.heap.size w3 w4) := D_w3.out.trans (hbb.mono (by omega))
  clear hbb
  have O_x0 : Hid (Mat w3.heap.size w4.heap.size w4 (newLie w3.heap.size n0 L0) n0 L0 F0) := hmo
  clear hmo
  go_wp2_with fail
  refine (iProg_any _ 0 _ O_x0.out.rd (by omega) HL0.out).mono ?_
  rintro e w5 ⟨g0, g1, rfl, hoo, hbb⟩
  obtain ⟨ga, gc, gb, gq, e0, e1⟩ := hoo.rd.shape
  subst e0
  subst e1
  have zw5 : w4.heap.size ≤ w5.heap.size := hbb.size
  replace B_S : Hid (Blk w5 w2.heap.size #[.int .i64 (pcd n0 L0 F0), .int .i64 (psd n0 L0 F0), .slice sa (pnp n0 L0 F0) sc, .slice sb (pnc n0 L0 F0) sq] 61) := B_S.out.old hbb
  replace O_x0 : Hid (Mat w3.heap.size w4.heap.size w5 (newLie w3.heap.size n0 L0) n0 L0 F0) := O_x0.out.keep (keep_below hbb (by omega))
  replace D_w : Hid (Below w.heap.size w w5) := D_w.out.trans (hbb.mono (by omega))
  replace D_w3 : Hid (Below w3.heap.size w3 w5) := D_w3.out.trans (hbb.mono (by omega))
  have O_g : Hid (MeO w4.heap.size w5.heap.size w5 (.slice ga (pnp n0 L0 F0) gc) (.slice gb (pnc n0 L0 F0) gq) (pnp n0 L0 F0) (pph n0 L0 F0) (pnc n0 L0 F0) (pC n0 L0 F0)) := hoo
  clear hoo hbb
  have c_S_0 := B_S.out.cell (j := 0) rfl
  have c_S_1 := B_S.out.cell (j := 1) rfl
  have c_S_2 := B_S.out.cell (j := 2) rfl
  have c_S_3 := B_S.out.cell (j := 3) rfl
  have l_S := B_S.out.lt
  go_wp2_with fail
  obtain ⟨w6, hwd⟩ : ∃ W, W = w5.alloc (.cells #[.int .i64 (pcd n0 L0 F0), .int .i64 (psd n0 L0 F0), .slice ga (pnp n0 L0 F0) gc, .slice gb (pnc n0 L0 F0) gq] 61) := ⟨_, rfl⟩
  have NB : Hid (Blk w6 w5.heap.size #[.int .i64 (pcd n0 L0 F0), .int .i64 (psd n0 L0 F0), .slice ga (pnp n0 L0 F0) gc, .slice gb (pnc n0 L0 F0) gq] 61) := by rw [hwd]; exact Blk.new rfl
  have hbb : Below w5.heap.size w5 w6 := by rw [hwd]; exact (Below.refl _ _).alloc (Nat.le_refl _) _
  have yw6 : w5.heap.size + 1 ≤ w6.heap.size := by rw [hwd]; simp
  rw [← hwd]
  clear hwd
  clear c_S_0 c_S_1 c_S_2 c_S_3 l_S
  have zw6 : w5.heap.size ≤ w6.heap.size := hbb.size
  replace B_S : Hid (Blk w6 w2.heap.size #[.int .i64 (pcd n0 L0 F0), .int .i64 (psd n0 L0 F0), .slice sa (pnp n0 L0 F0) sc, .slice sb (pnc n0 L0 F0) sq] 61) := B_S.out.old hbb
  replace O_x0 : Hid (Mat w3.heap.size w4.heap.size w6 (newLie w3.heap.size n0 L0) n0 L0 F0) := O_x0.out.keep (keep_below hbb (by omega))
  replace O_g : Hid (MeO w4.heap.size w5.heap.size w6 (.slice ga (pnp n0 L0 F0) gc) (.slice gb (pnc n0 L0 F0) gq) (pnp n0 L0 F0) (pph n0 L0 F0) (pnc n0 L0 F0) (pC n0 L0 F0)) := O_g.out.keep (keep_below hbb (by omega))
  replace D_w : Hid (Below w.heap.size w w6) := D_w.out.trans (hbb.mono (by omega))
  replace D_w3 : Hid (Below w3.heap.size w3 w6) := D_w3.out.trans (hbb.mono (by omega))
  clear hbb
  have B_G := NB
  clear NB
  refine (eqMR_any O_g.out.rd (RS.out.later D_w3.out) (by omega) (by omega)).mono ?_
  rintro e w7 ⟨rfl, hbb⟩
  have zw7 : w6.heap.size ≤ w7.heap.size := hbb.size
  replace B_S : Hid (Blk w7 w2.heap.size #[.int .i64 (pcd n0 L0 F0), .int .i64 (psd n0 L0 F0), .slice sa (pnp n0 L0 F0) sc, .slice sb (pnc n0 L0 F0) sq] 61) := B_S.out.old hbb
  replace B_G : Hid (Blk w7 w5.heap.size #[.int .i64 (pcd n0 L0 F0), .int .i64 (psd n0 L0 F0), .slice ga (pnp n0 L0 F0) gc, .slice gb (pnc n0 L0 F0) gq] 61) := B_G.out.old hbb
  replace O_x0 : Hid (Mat w3.heap.size w4.heap.size w7 (newLie w3.heap.size n0 L0) n0 L0 F0) := O_x0.out.keep (keep_below hbb (by omega))
  replace O_g : Hid (MeO w4.heap.size w5.heap.size w7 (.slice ga (pnp n0 L0 F0) gc) (.slice gb (pnc n0 L0 F0) gq) (pnp n0 L0 F0) (pph n0 L0 F0) (pnc n0 L0 F0) (pC n0 L0 F0)) := O_g.out.keep (keep_below hbb (by omega))
  replace D_w : Hid (Below w.heap.size w w7) := D_w.out.trans (hbb.mono (by omega))
  replace D_w3 : Hid (Below w3.heap.size w3 w7) := D_w3.out.trans (hbb.mono (by omega))
  clear hbb
  go_wp2_with fail
  refine (toSS_any (H0.out.1.later D_w.out) (by omega) HL0.out).mono ?_
  rintro e w8 ⟨rfl, hmo, hbb⟩
  have zw8 : w7.heap.size ≤ w8.heap.size := hbb.size
  replace B_S : Hid (Blk w8 w2.heap.size #[.int .i64 (pcd n0 L0 F0), .int .i64 (psd n0 L0 F0), .slice sa (pnp n0 L0 F0) sc, .slice sb (pnc n0 L0 F0) sq] 61) := B_S.out.old hbb
  replace B_G : Hid (Blk w8 w5.heap.size #[.int .i64 (pcd n0 L0 F0), .int .i64 (psd n0 L0 F0), .slice ga (pnp n0 L0 F0) gc, .slice gb (pnc n0 L0 F0) gq] 61) := B_G.out.old hbb
  replace O_x0 : Hid (Mat w3.heap.size w4.heap.size w8 (newLie w3.heap.size n0 L0) n0 L0 F0) := O_x0.out.keep (keep_below hbb (by omega))
  replace O_g : Hid (MeO w4.heap.size w5.heap.size w8 (.slice ga (pnp n0 L0 F0) gc) (.slice gb (pnc n0 L0 F0) gq) (pnp n0 L0 F0) (pph n0 L0 F0) (pnc n0 L0 F0) (pC n0 L0 F0)) := O_g.out.keep (keep_below hbb (by omega))
  replace D_w : Hid (Below w.heap.size w w8) := D_w.out.trans (hbb.mono (by omega))
  replace D_w3 : Hid (Below w3.heap.size w3 w8) := D_w3.out.trans (hbb.mono (by omega))
  clear hbb
  have O_q : Hid (Mat w7.heap.size w8.heap.size w8 (newLie w7.heap.size n0 L0) n0 L0 F0) := hmo
  clear hmo
  go_wp2_with fail
  refine (eqSS_any O_x0.out.rd O_q.out.rd (by omega) HL0.out).mono ?_
  rintro e w9 ⟨rfl, q, hqq⟩
  have hbb : Below w8.heap.size w8 w9 := by rw [hqq]; exact below_drewN (Below.refl _ _) q
  clear hqq
  clear O_q
  have zw9 : w8.heap.size ≤ w9.heap.size := hbb.size
  replace B_S : Hid (Blk w9 w2.heap.size #[.int .i64 (pcd n0 L0 F0), .int .i64 (psd n0 L0 F0), .slice sa (pnp n0 L0 F0) sc, .slice sb (pnc n0 L0 F0) sq] 61) := B_S.out.old hbb
  replace B_G : Hid (Blk w9 w5.heap.size #[.int .i64 (pcd n0 L0 F0), .int .i64 (psd n0 L0 F0), .slice ga (pnp n0 L0 F0) gc, .slice gb (pnc n0 L0 F0) gq] 61) := B_G.out.old hbb
  replace O_x0 : Hid (Mat w3.heap.size w4.heap.size w9 (newLie w3.heap.size n0 L0) n0 L0 F0) := O_x0.out.keep (keep_below hbb (by omega))
  replace O_g : Hid (MeO w4.heap.size w5.heap.size w9 (.slice ga (pnp n0 L0 F0) gc) (.slice gb (pnc n0 L0 F0) gq) (pnp n0 L0 F0) (pph n0 L0 F0) (pnc n0 L0 F0) (pC n0 L0 F0)) := O_g.out.keep (keep_below hbb (by omega))
  replace D_w : Hid (Below w.heap.size w w9) := D_w.out.trans (hbb.mono (by omega))
  replace D_w3 : Hid (Below w3.heap.size w3 w9) := D_w3.out.trans (hbb.mono (by omega))
  clear hbb
  go_wp2_with fail
  refine (markSS_some O_x0.out 1 (by omega) (by omega)).mono ?_
  rintro e w10 ⟨rfl, _, hww, _⟩
  have zw10 : w9.heap.size ≤ w10.heap.size := hww.below.size
  replace B_S : Hid (Blk w10 w2.heap.size #[.int .i64 (pcd n0 L0 F0), .int .i64 (psd n0 L0 F0), .slice sa (pnp n0 L0 F0) sc, .slice sb (pnc n0 L0 F0) sq] 61) := B_S.out.within hww (by omega)
  replace B_G : Hid (Blk w10 w5.heap.size #[.int .i64 (pcd n0 L0 F0), .int .i64 (psd n0 L0 F0), .slice ga (pnp n0 L0 F0) gc, .slice gb (pnc n0 L0 F0) gq] 61) := B_G.out.within hww (by omega)
  replace O_g : Hid (MeO w4.heap.size w5.heap.size w10 (.slice ga (pnp n0 L0 F0) gc) (.slice gb (pnc n0 L0 F0) gq) (pnp n0 L0 F0) (pph n0 L0 F0) (pnc n0 L0 F0) (pC n0 L0 F0)) := O_g.out.keep (keep_apart hww (by omega) (by omega))
  replace D_w : Hid (Below w.heap.size w w10) := D_w.out.trans (hww.below.mono (by omega))
  replace D_w3 : Hid (Below w3.heap.size w3 w10) := D_w3.out.trans (hww.below.mono (by omega))
  clear hww O_x0
  obtain ⟨k1, hk⟩ : ∃ k : Int, k = 1 + (Sm L0 n0 : Nat) := ⟨_, rfl⟩
  have hk1a : 0 ≤ k1 := by rw [hk]; omega
  have hk1b : k1 ≤ 1 + 8000000 := by rw [hk]; omega
  rw [← hk]
  clear hk
  have c_G_0 := B_G.out.cell (j := 0) rfl
  have c_G_1 := B_G.out.cell (j := 1) rfl
  have c_G_2 := B_G.out.cell (j := 2) rfl
  have c_G_3 := B_G.out.cell (j := 3) rfl
  have l_G := B_G.out.lt
  have c_S_0 := B_S.out.cell (j := 0) rfl
  have c_S_1 := B_S.out.cell (j := 1) rfl
  have c_S_2 := B_S.out.cell (j := 2) rfl
  have c_S_3 := B_S.out.cell (j := 3) rfl
  have l_S := B_S.out.lt
  go_wp2_with fail
  refine (eqMR_any O_g.out.rd (RS.out.later D_w3.out) (by omega) (by omega)).mono ?_
  rintro e w11 ⟨rfl, hbb⟩
  clear c_G_0 c_G_1 c_G_2 c_G_3 l_G c_S_0 c_S_1 c_S_2 c_S_3 l_S
  have zw11 : w10.heap.size ≤ w11.heap.size := hbb.size
  replace B_S : Hid (Blk w11 w2.heap.size #[.int .i64 (pcd n0 L0 F0), .int .i64 (psd n0 L0 F0), .slice sa (pnp n0 L0 F0) sc, .slice sb (pnc n0 L0 F0) sq] 61) := B_S.out.old hbb
  replace B_G : Hid (Blk w11 w5.heap.size #[.int .i64 (pcd n0 L0 F0), .int .i64 (psd n0 L0 F0), .slice ga (pnp n0 L0 F0) gc, .slice gb (pnc n0 L0 F0) gq] 61) := B_G.out.old hbb
  replace O_g : Hid (MeO w4.heap.size w5.heap.size w11 (.slice ga (pnp n0 L0 F0) gc) (.slice gb (pnc n0 L0 F0) gq) (pnp n0 L0 F0) (pph n0 L0 F0) (pnc n0 L0 F0) (pC n0 L0 F0)) := O_g.out.keep (keep_below hbb (by omega))
  replace D_w : Hid (Below w.heap.size w w11) := D_w.out.trans (hbb.mono (by omega))
  replace D_w3 : Hid (Below w3.heap.size w3 w11) := D_w3.out.trans (hbb.mono (by omega))
  clear hbb
  have c_G_0 := B_G.out.cell (j := 0) rfl
  have c_G_1 := B_G.out.cell (j := 1) rfl
  have c_G_2 := B_G.out.cell (j := 2) rfl
  have c_G_3 := B_G.out.cell (j := 3) rfl
  have l_G := B_G.out.lt
  go_wp2_with fail
  refine (markMR_any O_g.out (by omega) (by omega) (by omega) (by omega)).mono ?_
  rintro e w12 ⟨rfl, hmk, hww⟩
  clear c_G_0 c_G_1 c_G_2 c_G_3 l_G
  have zw12 : w11.heap.size ≤ w12.heap.size := hww.below.size
  replace B_S : Hid (Blk w12 w2.heap.size #[.int .i64 (pcd n0 L0 F0), .int .i64 (psd n0 L0 F0), .slice sa (pnp n0 L0 F0) sc, .slice sb (pnc n0 L0 F0) sq] 61) := B_S.out.within hww (by omega)
  replace B_G : Hid (Blk w12 w5.heap.size #[.int .i64 (pcd n0 L0 F0), .int .i64 (psd n0 L0 F0), .slice ga (pnp n0 L0 F0) gc, .slice gb (pnc n0 L0 F0) gq] 61) := B_G.out.within hww (by omega)
  replace D_w : Hid (Below w.heap.size w w12) := D_w.out.trans (hww.below.mono (by omega))
  replace D_w3 : Hid (Below w3.heap.size w3 w12) := D_w3.out.trans (hww.below.mono (by omega))
  replace O_g : Hid (MkM w4.heap.size w5.heap.size w12 (.slice ga (pnp n0 L0 F0) gc) (.slice gb (pnc n0 L0 F0) gq) (pnp n0 L0 F0) (pnc n0 L0 F0) 1) := hmk
  clear hmk hww
  obtain ⟨r, hr⟩ : ∃ r : Int, r = mK (1 + (pnp n0 L0 F0)) (pnc n0 L0 F0) := ⟨_, rfl⟩
  have hr0 : 0 ≤ r := by rw [hr]; unfold mK; omega
  have HR : Hid (r = mK (1 + (pnp n0 L0 F0)) (pnc n0 L0 F0)) := hr
  rw [← hr]
  clear hr
  have c_G_0 := B_G.out.cell (j := 0) rfl
  have c_G_1 := B_G.out.cell (j := 1) rfl
  have c_G_2 := B_G.out.cell (j := 2) rfl
  have c_G_3 := B_G.out.cell (j := 3) rfl
  have l_G := B_G.out.lt
  go_wp2_with fail
  refine (heldMR_any O_g.out (by omega) (by omega) (by omega)).mono ?_
  rintro e w13 ⟨rfl, hbb⟩
  clear c_G_0 c_G_1 c_G_2 c_G_3 l_G
  have zw13 : w12.heap.size ≤ w13.heap.size := hbb.size
  replace B_S : Hid (Blk w13 w2.heap.size #[.int .i64 (pcd n0 L0 F0), .int .i64 (psd n0 L0 F0), .slice sa (pnp n0 L0 F0) sc, .slice sb (pnc n0 L0 F0) sq] 61) := B_S.out.old hbb
  replace B_G : Hid (Blk w13 w5.heap.size #[.int .i64 (pcd n0 L0 F0), .int .i64 (psd n0 L0 F0), .slice ga (pnp n0 L0 F0) gc, .slice gb (pnc n0 L0 F0) gq] 61) := B_G.out.old hbb
  replace O_g : Hid (MkM w4.heap.size w5.heap.size w13 (.slice ga (pnp n0 L0 F0) gc) (.slice gb (pnc n0 L0 F0) gq) (pnp n0 L0 F0) (pnc n0 L0 F0) 1) := MeO.keep O_g.out (keep_below hbb (by omega))
  replace D_w : Hid (Below w.heap.size w w13) := D_w.out.trans (hbb.mono (by omega))
  replace D_w3 : Hid (Below w3.heap.size w3 w13) := D_w3.out.trans (hbb.mono (by omega))
  clear hbb
  rw [← HR.out]
  go_wp2_with fail
  refine (toSS_any (H0.out.1.later D_w.out) (by omega) HL0.out).mono ?_
  rintro e w14 ⟨rfl, hmo, hbb⟩
  have zw14 : w13.heap.size ≤ w14.heap.size := hbb.size
  replace B_S : Hid (Blk w14 w2.heap.size #[.int .i64 (pcd n0 L0 F0), .int .i64 (psd n0 L0 F0), .slice sa (pnp n0 L0 F0) sc, .slice sb (pnc n0 L0 F0) sq] 61) := B_S.out.old hbb
  replace B_G : Hid (Blk w14 w5.heap.size #[.int .i64 (pcd n0 L0 F0), .int .i64 (psd n0 L0 F0), .slice ga (pnp n0 L0 F0) gc, .slice gb (pnc n0 L0 F0) gq] 61) := B_G.out.old hbb
  replace O_g : Hid (MkM w4.heap.size w5.heap.size w14 (.slice ga (pnp n0 L0 F0) gc) (.slice gb (pnc n0 L0 F0) gq) (pnp n0 L0 F0) (pnc n0 L0 F0) 1) := MeO.keep O_g.out (keep_below hbb (by omega))
  replace D_w : Hid (Below w.heap.size w w14) := D_w.out.trans (hbb.mono (by omega))
  replace D_w3 : Hid (Below w3.heap.size w3 w14) := D_w3.out.trans (hbb.mono (by omega))
  clear hbb
  have O_h0 : Hid (Mat w13.heap.size w14.heap.size w14 (newLie w13.heap.size n0 L0) n0 L0 F0) := hmo
  clear hmo
  go_wp2_with fail
  refine (iProg_any _ 0 _ O_h0.out.rd (by omega) HL0.out).mono ?_
  rintro e w15 ⟨h0, h1, rfl, hoo, hbb⟩
  obtain ⟨ha, hc, hb, hq, e0, e1⟩ := hoo.rd.shape
  subst e0
  subst e1
  have zw15 : w14.heap.size ≤ w15.heap.size := hbb.size
  replace B_S : Hid (Blk w15 w2.heap.size #[.int .i64 (pcd n0 L0 F0), .int .i64 (psd n0 L0 F0), .slice sa (pnp n0 L0 F0) sc, .slice sb (pnc n0 L0 F0) sq] 61) := B_S.out.old hbb
  replace B_G : Hid (Blk w15 w5.heap.size #[.int .i64 (pcd n0 L0 F0), .int .i64 (psd n0 L0 F0), .slice ga (pnp n0 L0 F0) gc, .slice gb (pnc n0 L0 F0) gq] 61) := B_G.out.old hbb
  replace O_g : Hid (MkM w4.heap.size w5.heap.size w15 (.slice ga (pnp n0 L0 F0) gc) (.slice gb (pnc n0 L0 F0) gq) (pnp n0 L0 F0) (pnc n0 L0 F0) 1) := MeO.keep O_g.out (keep_below hbb (by omega))
  replace O_h0 : Hid (Mat w13.heap.size w14.heap.size w15 (newLie w13.heap.size n0 L0) n0 L0 F0) := O_h0.out.keep (keep_below hbb (by omega))
  replace D_w : Hid (Below w.heap.size w w15) := D_w.out.trans (hbb.mono (by omega))
  replace D_w3 : Hid (Below w3.heap.size w3 w15) := D_w3.out.trans (hbb.mono (by omega))
  have O_h : Hid (MeO w14.heap.size w15.heap.size w15 (.slice ha (pnp n0 L0 F0) hc) (.slice hb (pnc n0 L0 F0) hq) (pnp n0 L0 F0) (pph n0 L0 F0) (pnc n0 L0 F0) (pC n0 L0 F0)) := hoo
  clear hoo hbb
  have c_S_0 := B_S.out.cell (j := 0) rfl
  have c_S_1 := B_S.out.cell (j := 1) rfl
  have c_S_2 := B_S.out.cell (j := 2) rfl
  have c_S_3 := B_S.out.cell (j := 3) rfl
  have l_S := B_S.out.lt
  go_wp2_with fail
  obtain ⟨w16, hwd⟩ : ∃ W, W = w15.alloc (.cells #[.int .i64 (pcd n0 L0 F0), .int .i64 (psd n0 L0 F0), .slice ha (pnp n0 L0 F0) hc, .slice hb (pnc n0 L0 F0) hq] 61) := ⟨_, rfl⟩
  have NB : Hid (Blk w16 w15.heap.size #[.int .i64 (pcd n0 L0 F0), .int .i64 (psd n0 L0 F0), .slice ha (pnp n0 L0 F0) hc, .slice hb (pnc n0 L0 F0) hq] 61) := by rw [hwd]; exact Blk.new rfl
  have hbb : Below w15.heap.size w15 w16 := by rw [hwd]; exact (Below.refl _ _).alloc (Nat.le_refl _) _
  have yw16 : w15.heap.size + 1 ≤ w16.heap.size := by rw [hwd]; simp
  rw [← hwd]
  clear hwd
  clear c_S_0 c_S_1 c_S_2 c_S_3 l_S
  have zw16 : w15.heap.size ≤ w16.heap.size := hbb.size
  replace B_S : Hid (Blk w16 w2.heap.size #[.int .i64 (pcd n0 L0 F0), .int .i64 (psd n0 L0 F0), .slice sa (pnp n0 L0 F0) sc, .slice sb (pnc n0 L0 F0) sq] 61) := B_S.out.old hbb
  replace B_G : Hid (Blk w16 w5.heap.size #[.int .i64 (pcd n0 L0 F0), .int .i64 (psd n0 L0 F0), .slice ga (pnp n0 L0 F0) gc, .slice gb (pnc n0 L0 F0) gq] 61) := B_G.out.old hbb
  replace O_g : Hid (MkM w4.heap.size w5.heap.size w16 (.slice ga (pnp n0 L0 F0) gc) (.slice gb (pnc n0 L0 F0) gq) (pnp n0 L0 F0) (pnc n0 L0 F0) 1) := MeO.keep O_g.out (keep_below hbb (by omega))
  replace O_h0 : Hid (Mat w13.heap.size w14.heap.size w16 (newLie w13.heap.size n0 L0) n0 L0 F0) := O_h0.out.keep (keep_below hbb (by omega))
  replace O_h : Hid (MeO w14.heap.size w15.heap.size w16 (.slice ha (pnp n0 L0 F0) hc) (.slice hb (pnc n0 L0 F0) hq) (pnp n0 L0 F0) (pph n0 L0 F0) (pnc n0 L0 F0) (pC n0 L0 F0)) := O_h.out.keep (keep_below hbb (by omega))
  replace D_w : Hid (Below w.heap.size w w16) := D_w.out.trans (hbb.mono (by omega))
  replace D_w3 : Hid (Below w3.heap.size w3 w16) := D_w3.out.trans (hbb.mono (by omega))
  clear hbb
  have B_H := NB
  clear NB
  refine (eqMR_any O_h.out.rd (RS.out.later D_w3.out) (by omega) (by omega)).mono ?_
  rintro e w17 ⟨rfl, hbb⟩
  have zw17 : w16.heap.size ≤ w17.heap.size := hbb.size
  replace B_S : Hid (Blk w17 w2.heap.size #[.int .i64 (pcd n0 L0 F0), .int .i64 (psd n0 L0 F0), .slice sa (pnp n0 L0 F0) sc, .slice sb (pnc n0 L0 F0) sq] 61) := B_S.out.old hbb
  replace B_G : Hid (Blk w17 w5.heap.size #[.int .i64 (pcd n0 L0 F0), .int .i64 (psd n0 L0 F0), .slice ga (pnp n0 L0 F0) gc, .slice gb (pnc n0 L0 F0) gq] 61) := B_G.out.old hbb
  replace B_H : Hid (Blk w17 w15.heap.size #[.int .i64 (pcd n0 L0 F0), .int .i64 (psd n0 L0 F0), .slice ha (pnp n0 L0 F0) hc, .slice hb (pnc n0 L0 F0) hq] 61) := B_H.out.old hbb
  replace O_g : Hid (MkM w4.heap.size w5.heap.size w17 (.slice ga (pnp n0 L0 F0) gc) (.slice gb (pnc n0 L0 F0) gq) (pnp n0 L0 F0) (pnc n0 L0 F0) 1) := MeO.keep O_g.out (keep_below hbb (by omega))
  replace O_h0 : Hid (Mat w13.heap.size w14.heap.size w17 (newLie w13.heap.size n0 L0) n0 L0 F0) := O_h0.out.keep (keep_below hbb (by omega))
  replace O_h : Hid (MeO w14.heap.size w15.heap.size w17 (.slice ha (pnp n0 L0 F0) hc) (.slice hb (pnc n0 L0 F0) hq) (pnp n0 L0 F0) (pph n0 L0 F0) (pnc n0 L0 F0) (pC n0 L0 F0)) := O_h.out.keep (keep_below hbb (by omega))
  replace D_w : Hid (Below w.heap.size w w17) := D_w.out.trans (hbb.mono (by omega))
  replace D_w3 : Hid (Below w3.heap.size w3 w17) := D_w3.out.trans (hbb.mono (by omega))
  clear hbb
  have c_G_0 := B_G.out.cell (j := 0) rfl
  have c_G_1 := B_G.out.cell (j := 1) rfl
  have c_G_2 := B_G.out.cell (j := 2) rfl
  have c_G_3 := B_G.out.cell (j := 3) rfl
  have l_G := B_G.out.lt
  go_wp2_with fail
  refine (heldMR_any O_g.out (by omega) (by omega) (by omega)).mono ?_
  rintro e w18 ⟨rfl, hbb⟩
  clear c_G_0 c_G_1 c_G_2 c_G_3 l_G
  have zw18 : w17.heap.size ≤ w18.heap.size := hbb.size
  replace B_S : Hid (Blk w18 w2.heap.size #[.int .i64 (pcd n0 L0 F0), .int .i64 (psd n0 L0 F0), .slice sa (pnp n0 L0 F0) sc, .slice sb (pnc n0 L0 F0) sq] 61) := B_S.out.old hbb
  replace B_G : Hid (Blk w18 w5.heap.size #[.int .i64 (pcd n0 L0 F0), .int .i64 (psd n0 L0 F0), .slice ga (pnp n0 L0 F0) gc, .slice gb (pnc n0 L0 F0) gq] 61) := B_G.out.old hbb
  replace B_H : Hid (Blk w18 w15.heap.size #[.int .i64 (pcd n0 L0 F0), .int .i64 (psd n0 L0 F0), .slice ha (pnp n0 L0 F0) hc, .slice hb (pnc n0 L0 F0) hq] 61) := B_H.out.old hbb
  replace O_g : Hid (MkM w4.heap.size w5.heap.size w18 (.slice ga (pnp n0 L0 F0) gc) (.slice gb (pnc n0 L0 F0) gq) (pnp n0 L0 F0) (pnc n0 L0 F0) 1) := MeO.keep O_g.out (keep_below hbb (by omega))
  replace O_h0 : Hid (Mat w13.heap.size w14.heap.size w18 (newLie w13.heap.size n0 L0) n0 L0 F0) := O_h0.out.keep (keep_below hbb (by omega))
  replace O_h : Hid (MeO w14.heap.size w15.heap.size w18 (.slice ha (pnp n0 L0 F0) hc) (.slice hb (pnc n0 L0 F0) hq) (pnp n0 L0 F0) (pph n0 L0 F0) (pnc n0 L0 F0) (pC n0 L0 F0)) := O_h.out.keep (keep_below hbb (by omega))
  replace D_w : Hid (Below w.heap.size w w18) := D_w.out.trans (hbb.mono (by omega))
  replace D_w3 : Hid (Below w3.heap.size w3 w18) := D_w3.out.trans (hbb.mono (by omega))
  clear hbb
  rw [← HR.out]
  go_wp2
  go_ret
  exact ⟨rfl, D_w.out⟩

set_option maxRecDepth 100000 in
theorem lifted (os : Os) (started : os.Started) (H : Type) (enc : TypeId × Value → H) :
    ReturnsInHanded {} Try.checked os 8 .any (Rows.fnExactProgramMeshSpec.pre6 enc Try.prog Try.f8 Rows.fnExactProgramMeshRow.domain false) (Rows.fnExactProgramMeshSpec.post enc Try.prog Try.f8 false true false false) := by
  refine returnsInHanded_of_change (C := Try.checked) own started (by kernel_rfl) Try.func8
    (ChangeSpec.witness6 (enc := enc) (C := Try.checked) false ⟨#[], #[.slice none 0 0], []⟩ 8 (by kernel_rfl) (by kernel_rfl) (by kernel_rfl) (by kernel_rfl)) ?_
  intro W base args ds gs before hval0 hW hcnd _
  have hval : ∀ (j : Nat) t v, Try.f8.params[j]? = some t → args[j]? = some v → Value.okWide Try.prog W .any base t v := hval0
  have hW' := hW
  obtain ⟨p, q, hA0, hV, rfl, hfz, hnd⟩ := hW
  have hA : DataW.TrodAll enc Try.prog W 0 (fun _ => true) true Try.f8.params.toList args.toList ds p := hA0
  rw [Try.params8] at hA hval
  obtain ⟨v0, vs0, d0, ds0, p0, q0, hargs, rfl, rfl, h0, r0⟩ := trodAll_cons hA
  obtain ⟨rfl, rfl, rfl⟩ := trodAll_nil r0
  obtain rfl : args = #[v0] := by cases args; simp_all
  obtain ⟨rfl, rfl⟩ := trodVars_none hV
  have k0 := h0
  have lt0 : ∀ x ∈ p0, x.block < W.heap.size := by obtain ⟨m, hm⟩ := k0; exact DataW.trod_lt m _ _ _ hm
  obtain ⟨n0, L0, F0, R0, nb0, lb0⟩ := open_mat (hval 0 22 v0 rfl rfl) h0
  clear hA0 hval0
  refine (walk R0 nb0 lb0).mono fun e W' ⟨he, bel⟩ => ?_
  subst he
  exact ⟨_, rfl, _, _, _, [], _, [], hW', trodAll_mk1 (shut_bool Try.underlying4 _), (trodAll_cons_mk (Below.trod laidOut (by kernel_rfl) (of_decide_eq_true (by kernel_rfl)) k0 bel lt0) trodAll_mk0), rfl, bel.frame _, fun h => by cases h⟩

theorem over : Rows.fnExactProgramMeshRow.holds Try.pinned (OpenSpec.ofChange Rows.fnExactProgramMeshSpec) :=
  OpenClaim.holds_of_wide 8 Try.f8 rfl rfl rfl rfl rfl rfl rfl ⟨rfl, rfl, rfl, rfl, rfl⟩ rfl rfl rfl rfl rfl (by kernel_rfl) Try.func8 (by kernel_rfl)
    (of_decide_eq_true (by kernel_rfl)) (by unfold Func.isWrapper; first | (rw [if_pos (by decide +kernel)]; kernel_rfl) | (rw [if_neg (by decide +kernel)]; exact ⟨rfl, rfl⟩))
    (fun os started H enc _ => lifted os started H enc)
end Go.Proofs.Ytboppklcmdfphaa.LawProgramMesh
namespace Go.Proofs.Ytboppklcmdfphaa
theorem programMesh_holds : Rows.FnExactProgramMeshSaid := LawProgramMesh.over
#print axioms programMesh_holds
end Go.Proofs.Ytboppklcmdfphaa
