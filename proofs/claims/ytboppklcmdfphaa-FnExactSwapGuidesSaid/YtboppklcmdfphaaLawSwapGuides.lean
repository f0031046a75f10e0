/- At every argument the program's SwapGuides answers as the specification, code and mesh, where the law's own bound on the sizes does not answer first; what it answers owns its memory; nothing that was there is changed. -/
import Derived.Test.YtboppklcmdfphaaSx
import Derived.Test.YtboppklcmdfphaaOm
import Derived.Test.YtboppklcmdfphaaAux
import Derived.Handy
import Derived.Deep.RegionHeld3
import Derived.Deep.DeepCutAuto
namespace Go.Proofs.Ytboppklcmdfphaa.LawSwapGuides
open Go.ChangeShapes Go.WideShapes Go.ChangeAt Go.RowKit Go.Joins
set_option linter.unusedVariables false

set_option maxHeartbeats 4000000 in
set_option maxRecDepth 20000 in
theorem walk (n0 : Int) (n1 : Int) (n2 : Int) (w : World) :
    Calls Try.prog 10 #[.int .i64 n0, .int .i64 n1, .int .i64 n2] w fun e w' => e = .returned (.bool true) ∧ Below w.heap.size w w' := by
  have D_w : Hid (Below w.heap.size w w) := Below.refl _ _
  have zw : w.heap.size ≤ w.heap.size := Nat.le_refl _
  have hb1 : swnp n0 n1 n2 ≤ 24 := swnp_le n0 n1 n2
  have hb2 : swnc n0 n1 n2 ≤ 1 := swnc_le n0 n1 n2
  go_enter Try.func10, Try.ntmps10
  
  go_wp2_with fail
  refine (sSw_any n0 n1 n2 _).mono ?_
  rintro e w1 ⟨s0, s1, rfl, hoo, hbb⟩
  obtain ⟨sa, sc, sb, sq, es0, es1⟩ := (hoo.rd).shape
  subst es0
  subst es1
  have RS0 : Hid (Me w1 (.slice sa (swnp n0 n1 n2) sc) (.slice sb (swnc n0 n1 n2) sq) (swnp n0 n1 n2) (fun _ => 1) (swnc n0 n1 n2) (fun _ => Rm.swapC n1 n2)) := hoo.rd
  clear hoo
  have zw1 : w.heap.size ≤ w1.heap.size := hbb.size
  replace D_w : Hid (Below w.heap.size w w1) := D_w.out.trans (hbb.mono (by omega))
  clear hbb
  go_wp2_with fail
  obtain ⟨w2, hwd⟩ : ∃ W, W = w1.alloc (.cells #[.int .i64 (swc n0 n1 n2), .int .i64 (swsd n0 n1 n2), .slice sa (swnp n0 n1 n2) sc, .slice sb (swnc n0 n1 n2) sq] 61) := ⟨_, rfl⟩
  have NB : Hid (Blk w2 w1.heap.size #[.int .i64 (swc n0 n1 n2), .int .i64 (swsd n0 n1 n2), .slice sa (swnp n0 n1 n2) sc, .slice sb (swnc n0 n1 n2) sq] 61) := by rw [hwd]; exact Blk.new rfl
  have hbb : Below w1.heap.size w1 w2 := by rw [hwd]; exact (Below.refl _ _).alloc (Nat.le_refl _) _
  have yw2 : w1.heap.size + 1 ≤ w2.heap.size := by rw [hwd]; simp
  have HWD : Hid (w2 = w1.alloc (.cells #[.int .i64 (swc n0 n1 n2), .int .i64 (swsd n0 n1 n2), .slice sa (swnp n0 n1 n2) sc, .slice sb (swnc n0 n1 n2) sq] 61)) := hwd
  rw [← hwd]
  clear hwd
  have zw2 : w1.heap.size ≤ w2.heap.size := hbb.size
  replace D_w : Hid (Below w.heap.size w w2) := D_w.out.trans (hbb.mono (by omega))
  clear hbb
  have B_S := NB
  clear NB
  have RS : Hid (Me w2 (.slice sa (swnp n0 n1 n2) sc) (.slice sb (swnc n0 n1 n2) sq) (swnp n0 n1 n2) (fun _ => 1) (swnc n0 n1 n2) (fun _ => Rm.swapC n1 n2)) := RS0.out.later (show Below w1.heap.size w1 w2 from by rw [HWD.out]; exact (Below.refl _ _).alloc (Nat.le_refl _) _)
  clear RS0 HWD
  have D_w2 : Hid (Below w2.heap.size w2 w2) := Below.refl _ _
  refine (iSw_any n0 n1 n2 _).mono ?_
  rintro e w3 ⟨g0, g1, rfl, hoo, hbb⟩
  obtain ⟨ga, gc, gb, gq, e0, e1⟩ := hoo.rd.shape
  subst e0
  subst e1
  have zw3 : w2.heap.size ≤ w3.heap.size := hbb.size
  replace B_S : Hid (Blk w3 w1.heap.size #[.int .i64 (swc n0 n1 n2), .int .i64 (swsd n0 n1 n2), .slice sa (swnp n0 n1 n2) sc, .slice sb (swnc n0 n1 n2) sq] 61) := B_S.out.old hbb
  replace D_w : Hid (Below w.heap.size w w3) := D_w.out.trans (hbb.mono (by omega))
  replace D_w2 : Hid (Below w2.heap.size w2 w3) := D_w2.out.trans (hbb.mono (by omega))
  have O_g : Hid (MeO w2.heap.size w3.heap.size w3 (.slice ga (swnp n0 n1 n2) gc) (.slice gb (swnc n0 n1 n2) gq) (swnp n0 n1 n2) (fun _ => 1) (swnc n0 n1 n2) (fun _ => Rm.swapC n1 n2)) := hoo
  clear hoo hbb
  have c_S_0 := B_S.out.cell (j := 0) rfl
  have c_S_1 := B_S.out.cell (j := 1) rfl
  have c_S_2 := B_S.out.cell (j := 2) rfl
  have c_S_3 := B_S.out.cell (j := 3) rfl
  have l_S := B_S.out.lt
  go_wp2_with fail
  obtain ⟨w4, hwd⟩ : ∃ W, W = w3.alloc (.cells #[.int .i64 (swc n0 n1 n2), .int .i64 (swsd n0 n1 n2), .slice ga (swnp n0 n1 n2) gc, .slice gb (swnc n0 n1 n2) gq] 61) := ⟨_, rfl⟩
  have NB : Hid (Blk w4 w3.heap.size #[.int .i64 (swc n0 n1 n2), .int .i64 (swsd n0 n1 n2), .slice ga (swnp n0 n1 n2) gc, .slice gb (swnc n0 n1 n2) gq] 61) := by rw [hwd]; exact Blk.new rfl
  have hbb : Below w3.heap.size w3 w4 := by rw [hwd]; exact (Below.refl _ _).alloc (Nat.le_refl _) _
  have yw4 : w3.heap.size + 1 ≤ w4.heap.size := by rw [hwd]; simp
  rw [← hwd]
  clear hwd
  clear c_S_0 c_S_1 c_S_2 c_S_3 l_S
  have zw4 : w3.heap.size ≤ w4.heap.size := hbb.size
  replace B_S : Hid (Blk w4 w1.heap.size #[.int .i64 (swc n0 n1 n2), .int .i64 (swsd n0 n1 n2), .slice sa (swnp n0 n1 n2) sc, .slice sb (swnc n0 n1 n2) sq] 61) := B_S.out.old hbb
  replace O_g : Hid (MeO w2.heap.size w3.heap.size w4 (.slice ga (swnp n0 n1 n2) gc) (.slice gb (swnc n0 n1 n2) gq) (swnp n0 n1 n2) (fun _ => 1) (swnc n0 n1 n2) (fun _ => Rm.swapC n1 n2)) := O_g.out.keep (keep_below hbb (by omega))
  replace D_w : Hid (Below w.heap.size w w4) := D_w.out.trans (hbb.mono (by omega))
  replace D_w2 : Hid (Below w2.heap.size w2 w4) := D_w2.out.trans (hbb.mono (by omega))
  clear hbb
  have B_G := NB
  clear NB
  refine (eqMR_any O_g.out.rd (RS.out.later D_w2.out) (by omega) (by omega)).mono ?_
  rintro e w5 ⟨rfl, hbb⟩
  have zw5 : w4.heap.size ≤ w5.heap.size := hbb.size
  replace B_S : Hid (Blk w5 w1.heap.size #[.int .i64 (swc n0 n1 n2), .int .i64 (swsd n0 n1 n2), .slice sa (swnp n0 n1 n2) sc, .slice sb (swnc n0 n1 n2) sq] 61) := B_S.out.old hbb
  replace B_G : Hid (Blk w5 w3.heap.size #[.int .i64 (swc n0 n1 n2), .int .i64 (swsd n0 n1 n2), .slice ga (swnp n0 n1 n2) gc, .slice gb (swnc n0 n1 n2) gq] 61) := B_G.out.old hbb
  replace O_g : Hid (MeO w2.heap.size w3.heap.size w5 (.slice ga (swnp n0 n1 n2) gc) (.slice gb (swnc n0 n1 n2) gq) (swnp n0 n1 n2) (fun _ => 1) (swnc n0 n1 n2) (fun _ => Rm.swapC n1 n2)) := O_g.out.keep (keep_below hbb (by omega))
  replace D_w : Hid (Below w.heap.size w w5) := D_w.out.trans (hbb.mono (by omega))
  replace D_w2 : Hid (Below w2.heap.size w2 w5) := D_w2.out.trans (hbb.mono (by omega))
  clear hbb
  have c_G_0 := B_G.out.cell (j := 0) rfl
  have c_G_1 := B_G.out.cell (j := 1) rfl
  have c_G_2 := B_G.out.cell (j := 2) rfl
  have c_G_3 := B_G.out.cell (j := 3) rfl
  have l_G := B_G.out.lt
  go_wp2_with fail
  refine (markMR_any O_g.out (by omega) (by omega) (by omega) (by omega)).mono ?_
  rintro e w6 ⟨rfl, hmk, hww⟩
  clear c_G_0 c_G_1 c_G_2 c_G_3 l_G
  have zw6 : w5.heap.size ≤ w6.heap.size := hww.below.size
  replace B_S : Hid (Blk w6 w1.heap.size #[.int .i64 (swc n0 n1 n2), .int .i64 (swsd n0 n1 n2), .slice sa (swnp n0 n1 n2) sc, .slice sb (swnc n0 n1 n2) sq] 61) := B_S.out.within hww (by omega)
  replace B_G : Hid (Blk w6 w3.heap.size #[.int .i64 (swc n0 n1 n2), .int .i64 (swsd n0 n1 n2), .slice ga (swnp n0 n1 n2) gc, .slice gb (swnc n0 n1 n2) gq] 61) := B_G.out.within hww (by omega)
  replace D_w : Hid (Below w.heap.size w w6) := D_w.out.trans (hww.below.mono (by omega))
  replace D_w2 : Hid (Below w2.heap.size w2 w6) := D_w2.out.trans (hww.below.mono (by omega))
  replace O_g : Hid (MkM w2.heap.size w3.heap.size w6 (.slice ga (swnp n0 n1 n2) gc) (.slice gb (swnc n0 n1 n2) gq) (swnp n0 n1 n2) (swnc n0 n1 n2) 1) := hmk
  clear hmk hww
  obtain ⟨r, hr⟩ : ∃ r : Int, r = mK (1 + (swnp n0 n1 n2)) (swnc n0 n1 n2) := ⟨_, rfl⟩
  have hr0 : 0 ≤ r := by rw [hr]; unfold mK; omega
  have HR : Hid (r = mK (1 + (swnp n0 n1 n2)) (swnc n0 n1 n2)) := hr
  rw [← hr]
  clear hr
  have c_G_0 := B_G.out.cell (j := 0) rfl
  have c_G_1 := B_G.out.cell (j := 1) rfl
  have c_G_2 := B_G.out.cell (j := 2) rfl
  have c_G_3 := B_G.out.cell (j := 3) rfl
  have l_G := B_G.out.lt
  go_wp2_with fail
  refine (heldMR_any O_g.out (by omega) (by omega) (by omega)).mono ?_
  rintro e w7 ⟨rfl, hbb⟩
  clear c_G_0 c_G_1 c_G_2 c_G_3 l_G
  have zw7 : w6.heap.size ≤ w7.heap.size := hbb.size
  replace B_S : Hid (Blk w7 w1.heap.size #[.int .i64 (swc n0 n1 n2), .int .i64 (swsd n0 n1 n2), .slice sa (swnp n0 n1 n2) sc, .slice sb (swnc n0 n1 n2) sq] 61) := B_S.out.old hbb
  replace B_G : Hid (Blk w7 w3.heap.size #[.int .i64 (swc n0 n1 n2), .int .i64 (swsd n0 n1 n2), .slice ga (swnp n0 n1 n2) gc, .slice gb (swnc n0 n1 n2) gq] 61) := B_G.out.old hbb
  replace O_g : Hid (MkM w2.heap.size w3.heap.size w7 (.slice ga (swnp n0 n1 n2) gc) (.slice gb (swnc n0 n1 n2) gq) (swnp n0 n1 n2) (swnc n0 n1 n2) 1) := MeO.keep O_g.out (keep_below hbb (by omega))
  replace D_w : Hid (Below w.heap.size w w7) := D_w.out.trans (hbb.mono (by omega))
  replace D_w2 : Hid (Below w2.heap.size w2 w7) := D_w2.out.trans (hbb.mono (by omega))
  clear hbb
  rw [← HR.out]
  go_wp2_with fail
  refine (iSw_any n0 n1 n2 _).mono ?_
  rintro e w8 ⟨h0, h1, rfl, hoo, hbb⟩
  obtain ⟨ha, hc, hb, hq, e0, e1⟩ := hoo.rd.shape
  subst e0
  subst e1
  have zw8 : w7.heap.size ≤ w8.heap.size := hbb.size
  replace B_S : Hid (Blk w8 w1.heap.size #[.int .i64 (swc n0 n1 n2), .int .i64 (swsd n0 n1 n2), .slice sa (swnp n0 n1 n2) sc, .slice sb (swnc n0 n1 n2) sq] 61) := B_S.out.old hbb
  replace B_G : Hid (Blk w8 w3.heap.size #[.int .i64 (swc n0 n1 n2), .int .i64 (swsd n0 n1 n2), .slice ga (swnp n0 n1 n2) gc, .slice gb (swnc n0 n1 n2) gq] 61) := B_G.out.old hbb
  replace O_g : Hid (MkM w2.heap.size w3.heap.size w8 (.slice ga (swnp n0 n1 n2) gc) (.slice gb (swnc n0 n1 n2) gq) (swnp n0 n1 n2) (swnc n0 n1 n2) 1) := MeO.keep O_g.out (keep_below hbb (by omega))
  replace D_w : Hid (Below w.heap.size w w8) := D_w.out.trans (hbb.mono (by omega))
  replace D_w2 : Hid (Below w2.heap.size w2 w8) := D_w2.out.trans (hbb.mono (by omega))
  have O_h : Hid (MeO w7.heap.size w8.heap.size w8 (.slice ha (swnp n0 n1 n2) hc) (.slice hb (swnc n0 n1 n2) hq) (swnp n0 n1 n2) (fun _ => 1) (swnc n0 n1 n2) (fun _ => Rm.swapC n1 n2)) := hoo
  clear hoo hbb
  have c_S_0 := B_S.out.cell (j := 0) rfl
  have c_S_1 := B_S.out.cell (j := 1) rfl
  have c_S_2 := B_S.out.cell (j := 2) rfl
  have c_S_3 := B_S.out.cell (j := 3) rfl
  have l_S := B_S.out.lt
  go_wp2_with fail
  obtain ⟨w9, hwd⟩ : ∃ W, W = w8.alloc (.cells #[.int .i64 (swc n0 n1 n2), .int .i64 (swsd n0 n1 n2), .slice ha (swnp n0 n1 n2) hc, .slice hb (swnc n0 n1 n2) hq] 61) := ⟨_, rfl⟩
  have NB : Hid (Blk w9 w8.heap.size #[.int .i64 (swc n0 n1 n2), .int .i64 (swsd n0 n1 n2), .slice ha (swnp n0 n1 n2) hc, .slice hb (swnc n0 n1 n2) hq] 61) := by rw [hwd]; exact Blk.new rfl
  have hbb : Below w8.heap.size w8 w9 := by rw [hwd]; exact (Below.refl _ _).alloc (Nat.le_refl _) _
  have yw9 : w8.heap.size + 1 ≤ w9.heap.size := by rw [hwd]; simp
  rw [← hwd]
  clear hwd
  clear c_S_0 c_S_1 c_S_2 c_S_3 l_S
  have zw9 : w8.heap.size ≤ w9.heap.size := hbb.size
  replace B_S : Hid (Blk w9 w1.heap.size #[.int .i64 (swc n0 n1 n2), .int .i64 (swsd n0 n1 n2), .slice sa (swnp n0 n1 n2) sc, .slice sb (swnc n0 n1 n2) sq] 61) := B_S.out.old hbb
  replace B_G : Hid (Blk w9 w3.heap.size #[.int .i64 (swc n0 n1 n2), .int .i64 (swsd n0 n1 n2), .slice ga (swnp n0 n1 n2) gc, .slice gb (swnc n0 n1 n2) gq] 61) := B_G.out.old hbb
  replace O_g : Hid (MkM w2.heap.size w3.heap.size w9 (.slice ga (swnp n0 n1 n2) gc) (.slice gb (swnc n0 n1 n2) gq) (swnp n0 n1 n2) (swnc n0 n1 n2) 1) := MeO.keep O_g.out (keep_below hbb (by omega))
  replace O_h : Hid (MeO w7.heap.size w8.heap.size w9 (.slice ha (swnp n0 n1 n2) hc) (.slice hb (swnc n0 n1 n2) hq) (swnp n0 n1 n2) (fun _ => 1) (swnc n0 n1 n2) (fun _ => Rm.swapC n1 n2)) := O_h.out.keep (keep_below hbb (by omega))
  replace D_w : Hid (Below w.heap.size w w9) := D_w.out.trans (hbb.mono (by omega))
  replace D_w2 : Hid (Below w2.heap.size w2 w9) := D_w2.out.trans (hbb.mono (by omega))
  clear hbb
  have B_H := NB
  clear NB
  refine (eqMR_any O_h.out.rd (RS.out.later D_w2.out) (by omega) (by omega)).mono ?_
  rintro e w10 ⟨rfl, hbb⟩
  have zw10 : w9.heap.size ≤ w10.heap.size := hbb.size
  replace B_S : Hid (Blk w10 w1.heap.size #[.int .i64 (swc n0 n1 n2), .int .i64 (swsd n0 n1 n2), .slice sa (swnp n0 n1 n2) sc, .slice sb (swnc n0 n1 n2) sq] 61) := B_S.out.old hbb
  replace B_G : Hid (Blk w10 w3.heap.size #[.int .i64 (swc n0 n1 n2), .int .i64 (swsd n0 n1 n2), .slice ga (swnp n0 n1 n2) gc, .slice gb (swnc n0 n1 n2) gq] 61) := B_G.out.old hbb
  replace B_H : Hid (Blk w10 w8.heap.size #[.int .i64 (swc n0 n1 n2), .int .i64 (swsd n0 n1 n2), .slice ha (swnp n0 n1 n2) hc, .slice hb (swnc n0 n1 n2) hq] 61) := B_H.out.old hbb
  replace O_g : Hid (MkM w2.heap.size w3.heap.size w10 (.slice ga (swnp n0 n1 n2) gc) (.slice gb (swnc n0 n1 n2) gq) (swnp n0 n1 n2) (swnc n0 n1 n2) 1) := MeO.keep O_g.out (keep_below hbb (by omega))
  replace O_h : Hid (MeO w7.heap.size w8.heap.size w10 (.slice ha (swnp n0 n1 n2) hc) (.slice hb (swnc n0 n1 n2) hq) (swnp n0 n1 n2) (fun _ => 1) (swnc n0 n1 n2) (fun _ => Rm.swapC n1 n2)) := O_h.out.keep (keep_below hbb (by omega))
  replace D_w : Hid (Below w.heap.size w w10) := D_w.out.trans (hbb.mono (by omega))
  replace D_w2 : Hid (Below w2.heap.size w2 w10) := D_w2.out.trans (hbb.mono (by omega))
  clear hbb
  have c_G_0 := B_G.out.cell (j := 0) rfl
  have c_G_1 := B_G.out.cell (j := 1) rfl
  have c_G_2 := B_G.out.cell (j := 2) rfl
  have c_G_3 := B_G.out.cell (j := 3) rfl
  have l_G := B_G.out.lt
  go_wp2_with fail
  refine (heldMR_any O_g.out (by omega) (by omega) (by omega)).mono ?_
  rintro e w11 ⟨rfl, hbb⟩
  clear c_G_0 c_G_1 c_G_2 c_G_3 l_G
  have zw11 : w10.heap.size ≤ w11.heap.size := hbb.size
  replace B_S : Hid (Blk w11 w1.heap.size #[.int .i64 (swc n0 n1 n2), .int .i64 (swsd n0 n1 n2), .slice sa (swnp n0 n1 n2) sc, .slice sb (swnc n0 n1 n2) sq] 61) := B_S.out.old hbb
  replace B_G : Hid (Blk w11 w3.heap.size #[.int .i64 (swc n0 n1 n2), .int .i64 (swsd n0 n1 n2), .slice ga (swnp n0 n1 n2) gc, .slice gb (swnc n0 n1 n2) gq] 61) := B_G.out.old hbb
  replace B_H : Hid (Blk w11 w8.heap.size #[.int .i64 (swc n0 n1 n2), .int .i64 (swsd n0 n1 n2), .slice ha (swnp n0 n1 n2) hc, .slice hb (swnc n0 n1 n2) hq] 61) := B_H.out.old hbb
  replace O_g : Hid (MkM w2.heap.size w3.heap.size w11 (.slice ga (swnp n0 n1 n2) gc) (.slice gb (swnc n0 n1 n2) gq) (swnp n0 n1 n2) (swnc n0 n1 n2) 1) := MeO.keep O_g.out (keep_below hbb (by omega))
  replace O_h : Hid (MeO w7.heap.size w8.heap.size w11 (.slice ha (swnp n0 n1 n2) hc) (.slice hb (swnc n0 n1 n2) hq) (swnp n0 n1 n2) (fun _ => 1) (swnc n0 n1 n2) (fun _ => Rm.swapC n1 n2)) := O_h.out.keep (keep_below hbb (by omega))
  replace D_w : Hid (Below w.heap.size w w11) := D_w.out.trans (hbb.mono (by omega))
  replace D_w2 : Hid (Below w2.heap.size w2 w11) := D_w2.out.trans (hbb.mono (by omega))
  clear hbb
  rw [← HR.out]
  go_wp2
  go_ret
  exact ⟨rfl, D_w.out⟩

set_option maxRecDepth 100000 in
theorem lifted (os : Os) (started : os.Started) (H : Type) (enc : TypeId × Value → H) :
    ReturnsInHanded {} Try.checked os 10 .any (Rows.fnExactSwapGuidesSpec.pre6 enc Try.prog Try.f10 Rows.fnExactSwapGuidesRow.domain false) (Rows.fnExactSwapGuidesSpec.post enc Try.prog Try.f10 false true false false) := by
  refine returnsInHanded_of_change (C := Try.checked) own started (by kernel_rfl) Try.func10
    (ChangeSpec.witness6 (enc := enc) (C := Try.checked) false ⟨#[], #[.int .i64 0, .int .i64 0, .int .i64 0], []⟩ 8 (by kernel_rfl) (by kernel_rfl) (by kernel_rfl) (by kernel_rfl)) ?_
  intro W base args ds gs before hval0 hW hcnd _
  have hval : ∀ (j : Nat) t v, Try.f10.params[j]? = some t → args[j]? = some v → Value.okWide Try.prog W .any base t v := hval0
  have hW' := hW
  obtain ⟨p, q, hA0, hV, rfl, hfz, hnd⟩ := hW
  have hA : DataW.TrodAll enc Try.prog W 0 (fun _ => true) true Try.f10.params.toList args.toList ds p := hA0
  rw [Try.params10] at hA hval
  obtain ⟨v0, vs0, d0, ds0, p0, q0, hargs, rfl, rfl, h0, r0⟩ := trodAll_cons hA
  obtain ⟨v1, vs1, d1, ds1, p1, q1, rfl, rfl, rfl, h1, r1⟩ := trodAll_cons r0
  obtain ⟨v2, vs2, d2, ds2, p2, q2, rfl, rfl, rfl, h2, r2⟩ := trodAll_cons r1
  obtain ⟨rfl, rfl, rfl⟩ := trodAll_nil r2
  obtain rfl : args = #[v0, v1, v2] := by cases args; simp_all
  obtain ⟨rfl, rfl⟩ := trodVars_none hV
  have k0 := h0
  have lt0 : ∀ x ∈ p0, x.block < W.heap.size := by obtain ⟨m, hm⟩ := k0; exact DataW.trod_lt m _ _ _ hm
  obtain ⟨n0, rfl, _, _, w0⟩ := open_int Try.underlying2 (hval 0 2 v0 rfl rfl) h0
  have k1 := h1
  have lt1 : ∀ x ∈ p1, x.block < W.heap.size := by obtain ⟨m, hm⟩ := k1; exact DataW.trod_lt m _ _ _ hm
  obtain ⟨n1, rfl, _, _, w1⟩ := open_int Try.underlying2 (hval 1 2 v1 rfl rfl) h1
  have k2 := h2
  have lt2 : ∀ x ∈ p2, x.block < W.heap.size := by obtain ⟨m, hm⟩ := k2; exact DataW.trod_lt m _ _ _ hm
  obtain ⟨n2, rfl, _, _, w2⟩ := open_int Try.underlying2 (hval 2 2 v2 rfl rfl) h2
  clear hA0 hval0
  refine (walk n0 n1 n2 W).mono fun e W' ⟨he, bel⟩ => ?_
  subst he
  exact ⟨_, rfl, _, _, _, [], _, [], hW', trodAll_mk1 (shut_bool Try.underlying4 _), (trodAll_cons_mk (Below.trod laidOut (by kernel_rfl) (of_decide_eq_true (by kernel_rfl)) k0 bel lt0) (trodAll_cons_mk (Below.trod laidOut (by kernel_rfl) (of_decide_eq_true (by kernel_rfl)) k1 bel lt1) (trodAll_cons_mk (Below.trod laidOut (by kernel_rfl) (of_decide_eq_true (by kernel_rfl)) k2 bel lt2) trodAll_mk0))), rfl, bel.frame _, fun h => by cases h⟩

theorem over : Rows.fnExactSwapGuidesRow.holds Try.pinned (OpenSpec.ofChange Rows.fnExactSwapGuidesSpec) :=
  OpenClaim.holds_of_wide 10 Try.f10 rfl rfl rfl rfl rfl rfl rfl ⟨rfl, rfl, rfl, rfl, rfl⟩ rfl rfl rfl rfl rfl (by kernel_rfl) Try.func10 (by kernel_rfl)
    (of_decide_eq_true (by kernel_rfl)) (by unfold Func.isWrapper; first | (rw [if_pos (by decide +kernel)]; kernel_rfl) | (rw [if_neg (by decide +kernel)]; exact ⟨rfl, rfl⟩))
    (fun os started H enc _ => lifted os started H enc)
end Go.Proofs.Ytboppklcmdfphaa.LawSwapGuides
namespace Go.Proofs.Ytboppklcmdfphaa
theorem swapGuides_holds : Rows.FnExactSwapGuidesSaid := LawSwapGuides.over
#print axioms swapGuides_holds
end Go.Proofs.Ytboppklcmdfphaa
