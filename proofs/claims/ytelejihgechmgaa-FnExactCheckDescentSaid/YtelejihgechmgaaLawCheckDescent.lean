/- At every argument the program's CheckDescent answers as the specification, where the law's own bound on the sizes does not answer first; what it answers owns its memory; nothing that was there is changed. -/
import Derived.Test.YtelejihgechmgaaCd
import Derived.Test.YtelejihgechmgaaPo
import Derived.Test.YtelejihgechmgaaRw
import Derived.Test.YtelejihgechmgaaLv
import Derived.Handy
import Derived.Deep.RegionHeld3
import Derived.Deep.DeepCutAuto
namespace Go.Proofs.Ytelejihgechmgaa.LawCheckDescent
open Go.ChangeShapes Go.WideShapes Go.ChangeAt Go.RowKit Go.Joins
set_option linter.unusedVariables false

set_option maxHeartbeats 8000000 in
set_option maxRecDepth 20000 in
theorem walk {w : World} {v0 : Value} {n0 : Nat} {L0 : Nat → Li} (h0 : RdL w v0 n0 L0) (nb0 : n0 ≤ 9223372036854775807) (lb0 : LBd n0 L0) {c1 : Int} {ao1 mo1 : Option Addr} {np1 cap1 nm1 mc1 : Nat} {Ls1 : Nat → Nat} {F1 : Rm.Mx} {M1 : Nat → Int} (h1 : RdP w (.slice ao1 np1 cap1) (.slice mo1 nm1 mc1) np1 Ls1 F1 nm1 M1) (nb1 : np1 ≤ 9223372036854775807) (lb1 : ∀ i, i < np1 → Ls1 i ≤ 9223372036854775807) (nc1 : nm1 ≤ 9223372036854775807) :
    Calls Try.prog 9 #[v0, .agg #[.int .i64 c1, .slice ao1 np1 cap1, .slice mo1 nm1 mc1]] w fun e w' => e = .returned (.bool true) ∧ Below w.heap.size w w' := by
  obtain ⟨va0, vc0, ev0⟩ : ∃ ao cap, v0 = .slice ao n0 cap := h0.shape
  subst ev0
  have H0 : Hid (RdL w (.slice va0 n0 vc0) n0 L0) := h0
  have HB0 : Hid (LBd n0 L0) := lb0
  clear h0 lb0
  have H1 : Hid (RdP w (.slice ao1 np1 cap1) (.slice mo1 nm1 mc1) np1 Ls1 F1 nm1 M1) := h1
  have HL1 : Hid (∀ i, i < np1 → Ls1 i ≤ 9223372036854775807) := lb1
  clear h1 lb1
  have D_w : Hid (Below w.heap.size w w) := Below.refl _ _
  have zw : w.heap.size ≤ w.heap.size := Nat.le_refl _
  obtain ⟨c, hcc⟩ : ∃ c, c = Mt.chk L0 n0 c1 np1 Ls1 F1 nm1 M1 := ⟨_, rfl⟩
  have HCC : Hid (c = Mt.chk L0 n0 c1 np1 Ls1 F1 nm1 M1) := hcc
  clear hcc
  go_enter Try.func9, Try.ntmps9
  go_wp2_with fail
  obtain ⟨w1, hwd⟩ : ∃ W, W = w.alloc (.cells #[.int .i64 c1, .slice ao1 np1 cap1, .slice mo1 nm1 mc1] 62) := ⟨_, rfl⟩
  have B_a1 : Hid (Blk w1 w.heap.size #[.int .i64 c1, .slice ao1 np1 cap1, .slice mo1 nm1 mc1] 62) := by rw [hwd]; exact Blk.new rfl
  have hbb : Below w.heap.size w w1 := by rw [hwd]; exact (Below.refl _ _).alloc (Nat.le_refl _) _
  rw [← hwd]
  clear hwd
  have zw1 : w.heap.size ≤ w1.heap.size := hbb.size
  replace D_w : Hid (Below w.heap.size w w1) := D_w.out.trans (hbb.mono (by omega))
  clear hbb
  refine (szLits_any (H0.out.later D_w.out) 1048576 (by omega) (by omega) nb0 HB0.out).mono ?_
  rintro e w2 ⟨left0, rfl, ht, hbb⟩
  have zw2 : w1.heap.size ≤ w2.heap.size := hbb.size
  replace B_a1 : Hid (Blk w2 w.heap.size #[.int .i64 c1, .slice ao1 np1 cap1, .slice mo1 nm1 mc1] 62) := B_a1.out.old hbb
  replace D_w : Hid (Below w.heap.size w w2) := D_w.out.trans (hbb.mono (by omega))
  clear hbb
  have HT0 : Hid (ToldL n0 L0 1048576 left0) := ht
  clear ht
  by_cases hr0 : left0 < 0
  · go_wp2
    go_ret
    exact ⟨rfl, D_w.out⟩
  have hs0 := ToldL.ok HT0.out hr0
  have hs0b : left0 ≤ 1048576 := ToldL.le HT0.out hr0
  have hm0 : (n0 : Int) ≤ 1048576 := by omega
  have HS0 : Hid (LFew n0 L0) := ⟨by omega, by have := hs0; omega⟩
  clear HT0
  have c_a1_0 := B_a1.out.cell (j := 0) rfl
  have c_a1_1 := B_a1.out.cell (j := 1) rfl
  have c_a1_2 := B_a1.out.cell (j := 2) rfl
  have l_a1 := B_a1.out.lt
  go_wp2_with fail
  refine (szPath_any (c := c1) (H1.out.later D_w.out).pts left0 (by omega) (by omega) nb1 HL1.out nc1).mono ?_
  rintro e w3 ⟨left1, rfl, ht, hbb⟩
  clear c_a1_0 c_a1_1 c_a1_2 l_a1
  have zw3 : w2.heap.size ≤ w3.heap.size := hbb.size
  replace B_a1 : Hid (Blk w3 w.heap.size #[.int .i64 c1, .slice ao1 np1 cap1, .slice mo1 nm1 mc1] 62) := B_a1.out.old hbb
  replace D_w : Hid (Below w.heap.size w w3) := D_w.out.trans (hbb.mono (by omega))
  clear hbb
  have HT1 : Hid (ToldP np1 Ls1 nm1 left0 left1) := ht
  clear ht
  by_cases hr1 : left1 < 0
  · go_wp2
    go_ret
    exact ⟨rfl, D_w.out⟩
  have hT1 : 0 ≤ left1 ∧ left1 + np1 + Sm Ls1 np1 + nm1 = left0 := HT1.out.resolve_left (by omega)
  have HPF : Hid (PFew np1 Ls1 nm1) := ⟨by have := hT1.2; omega⟩
  have hnp : (np1 : Int) ≤ 1048576 := by omega
  have hnm : (nm1 : Int) ≤ 1048576 := by omega
  clear hT1 HT1
  go_upto_region 8 with fail
  have KA : ∀ W, Below w3.heap.size w3 W → Hid (W.cell? ⟨w.heap.size, 0, none⟩ = some (.int .i64 c1) ∧ W.cell? ⟨w.heap.size, 1, none⟩ = some (.slice ao1 np1 cap1) ∧ W.cell? ⟨w.heap.size, 2, none⟩ = some (.slice mo1 nm1 mc1)) := fun W hb => ⟨(B_a1.out.old hb).cell rfl, (B_a1.out.old hb).cell rfl, (B_a1.out.old hb).cell rfl⟩
  refine wp_region_pr (by kernel_rfl) [20, 21, 22, 23, 24, 6] (fun i v W => match i with
    | 0 => v = .slice va0 n0 vc0
    | 1 => ∃ g, v = .slice (some ⟨g, 0, none⟩) n0 n0 ∧ RdL W (.slice (some ⟨g, 0, none⟩) n0 n0) n0 L0
    | 2 => v = .agg #[.int .i64 c1, .slice ao1 np1 cap1, .slice mo1 nm1 mc1]
    | 3 => ∃ g g2, v = .agg #[.int .i64 c1, .slice (some ⟨g, 0, none⟩) np1 np1, .slice (some ⟨g2, 0, none⟩) nm1 nm1] ∧ RdP W (.slice (some ⟨g, 0, none⟩) np1 np1) (.slice (some ⟨g2, 0, none⟩) nm1 nm1) np1 Ls1 F1 nm1 M1
    | 4 => v = .bool c
    | 5 => v = .bool c
    | _ => True) (reg_ok (n := 45) (by decide +kernel)) ?_ ?_ ?_
  · intro i v W W2 h hb
    rcases (show i = 0 ∨ i = 1 ∨ i = 2 ∨ i = 3 ∨ i = 4 ∨ i = 5 ∨ 6 ≤ i by omega) with rfl | rfl | rfl | rfl | rfl | rfl | hbig
    · exact h
    · exact (by obtain ⟨g, e, h1⟩ := h; exact ⟨g, e, h1.later hb⟩)
    · exact h
    · exact (by obtain ⟨g, g2, e, h1⟩ := h; exact ⟨g, g2, e, h1.later hb⟩)
    · exact h
    · exact h
    · match i, hbig with | k + 6, _ => exact trivial
  · intro i o ho b W hB hbase hdep K hK
    replace hK : Hid _ := hK
    have hlt : i < 6 := by have := (List.getElem?_eq_some_iff.1 ho).1; simpa using this
    have bse0 : b.tmps[0]?.getD undef = .slice va0 n0 vc0 := (hbase 0 (by decide)).trans rfl
    have bse3 : b.tmps[3]?.getD undef = .pointer (some ⟨w.heap.size, 0, none⟩) := (hbase 3 (by decide)).trans rfl
    clear hbase
    rcases (show i = 0 ∨ i = 1 ∨ i = 2 ∨ i = 3 ∨ i = 4 ∨ i = 5 by omega) with rfl | rfl | rfl | rfl | rfl | rfl
    · simp at ho
      subst ho
      clear hdep
      go_simp
      exact hK.out _ _ (Below.refl _ _) rfl
    · simp at ho
      subst ho
      have d0 := hdep ⟨0, .data⟩ (by simp) (by decide)
      replace d0 : (fun (v : Value) (W : World) => v = .slice va0 n0 vc0) (b.tmps[20]?.getD undef) W := d0
      dsimp only at d0
      clear hdep
      go_simp
      go_at_call 30
      refine (toLits_any (H0.out.later (D_w.out.trans (hB.mono (by omega)))) HS0.out).mono ?_
      rintro e W2 ⟨g, rfl, hmo, hb⟩
      exact hK.out _ _ hb ⟨g, rfl, hmo.rd⟩
    · simp at ho
      subst ho
      clear hdep
      obtain ⟨k0, k1, k2⟩ := (KA W hB).out
      go_simp
      exact hK.out _ _ (Below.refl _ _) rfl
    · simp at ho
      subst ho
      have d2 := hdep ⟨2, .data⟩ (by simp) (by decide)
      replace d2 : (fun (v : Value) (W : World) => v = .agg #[.int .i64 c1, .slice ao1 np1 cap1, .slice mo1 nm1 mc1]) (b.tmps[22]?.getD undef) W := d2
      dsimp only at d2
      clear hdep
      go_simp
      go_at_call 46
      refine (toPath_any (c := c1) (H1.out.later (D_w.out.trans (hB.mono (by omega)))) HPF.out).mono ?_
      rintro e W2 ⟨g, g2, rfl, hmo, hb⟩
      exact hK.out _ _ hb ⟨g, g2, rfl, hmo.rd⟩
    · simp at ho
      subst ho
      have d1 := hdep ⟨1, .data⟩ (by simp) (by decide)
      replace d1 : (fun (v : Value) (W : World) => ∃ g, v = .slice (some ⟨g, 0, none⟩) n0 n0 ∧ RdL W (.slice (some ⟨g, 0, none⟩) n0 n0) n0 L0) (b.tmps[21]?.getD undef) W := d1
      dsimp only at d1
      have d3 := hdep ⟨3, .data⟩ (by simp) (by decide)
      replace d3 : (fun (v : Value) (W : World) => ∃ g g2, v = .agg #[.int .i64 c1, .slice (some ⟨g, 0, none⟩) np1 np1, .slice (some ⟨g2, 0, none⟩) nm1 nm1] ∧ RdP W (.slice (some ⟨g, 0, none⟩) np1 np1) (.slice (some ⟨g2, 0, none⟩) nm1 nm1) np1 Ls1 F1 nm1 M1) (b.tmps[23]?.getD undef) W := d3
      dsimp only at d3
      clear hdep
      obtain ⟨ga, ea, ha⟩ := d1
      obtain ⟨gp, gp2, ep, hp⟩ := d3
      go_simp
      go_at_call 45
      refine (sCheck_any HCC.out ha hp (by omega) (by omega) (by omega) (fun i hi => HPF.out.row hi)).mono ?_
      rintro e W2 ⟨rfl, hb⟩
      exact hK.out _ _ hb rfl
    · simp at ho
      subst ho
      have d4 := hdep ⟨4, .data⟩ (by simp) (by decide)
      replace d4 : (fun (v : Value) (W : World) => v = .bool c) (b.tmps[24]?.getD undef) W := d4
      dsimp only at d4
      clear hdep
      go_simp
      exact hK.out _ _ (Below.refl _ _) rfl
  · intro vs W hB hP
    have v1 := hP 1 (by decide)
    replace v1 : (fun (v : Value) (W : World) => ∃ g, v = .slice (some ⟨g, 0, none⟩) n0 n0 ∧ RdL W (.slice (some ⟨g, 0, none⟩) n0 n0) n0 L0) (vs 1) W := v1
    dsimp only at v1
    have v3 := hP 3 (by decide)
    replace v3 : (fun (v : Value) (W : World) => ∃ g g2, v = .agg #[.int .i64 c1, .slice (some ⟨g, 0, none⟩) np1 np1, .slice (some ⟨g2, 0, none⟩) nm1 nm1] ∧ RdP W (.slice (some ⟨g, 0, none⟩) np1 np1) (.slice (some ⟨g2, 0, none⟩) nm1 nm1) np1 Ls1 F1 nm1 M1) (vs 3) W := v3
    dsimp only at v3
    have v5 := hP 5 (by decide)
    replace v5 : (fun (v : Value) (W : World) => v = .bool c) (vs 5) W := v5
    dsimp only at v5
    clear hP
    simp only [putD, Act.put, List.setIfInBounds_toArray, List.set_cons_succ, List.set_cons_zero, Nat.reduceAdd]
    obtain ⟨w4, rfl⟩ : ∃ v, v = W := ⟨_, rfl⟩
    rw [v5]
    clear v5 KA
    have hbb : Below w3.heap.size w3 w4 := hB
    clear hB
    have zw4 : w3.heap.size ≤ w4.heap.size := hbb.size
    replace B_a1 : Hid (Blk w4 w.heap.size #[.int .i64 c1, .slice ao1 np1 cap1, .slice mo1 nm1 mc1] 62) := B_a1.out.old hbb
    replace D_w : Hid (Below w.heap.size w w4) := D_w.out.trans (hbb.mono (by omega))
    clear hbb v1 v3
    go_wp2_with fail
    refine (toLits_any (H0.out.later D_w.out) HS0.out).mono ?_
    rintro e w5 ⟨gx0, rfl, hmo, hbb⟩
    have zw5 : w4.heap.size ≤ w5.heap.size := hbb.size
    replace B_a1 : Hid (Blk w5 w.heap.size #[.int .i64 c1, .slice ao1 np1 cap1, .slice mo1 nm1 mc1] 62) := B_a1.out.old hbb
    replace D_w : Hid (Below w.heap.size w w5) := D_w.out.trans (hbb.mono (by omega))
    clear hbb
    have O_x0 : Hid (OwLs w4.heap.size w5.heap.size w5 gx0 n0 L0) := hmo
    clear hmo
    have c_a1_0 := B_a1.out.cell (j := 0) rfl
    have c_a1_1 := B_a1.out.cell (j := 1) rfl
    have c_a1_2 := B_a1.out.cell (j := 2) rfl
    have l_a1 := B_a1.out.lt
    go_wp2_with fail
    refine (toPath_any (c := c1) (H1.out.later D_w.out) HPF.out).mono ?_
    rintro e w6 ⟨gp, gp2, rfl, hmo, hbb⟩
    clear c_a1_0 c_a1_1 c_a1_2 l_a1
    have zw6 : w5.heap.size ≤ w6.heap.size := hbb.size
    replace B_a1 : Hid (Blk w6 w.heap.size #[.int .i64 c1, .slice ao1 np1 cap1, .slice mo1 nm1 mc1] 62) := B_a1.out.old hbb
    replace O_x0 : Hid (OwLs w4.heap.size w5.heap.size w6 gx0 n0 L0) := O_x0.out.keep (keep_below hbb (by omega))
    replace D_w : Hid (Below w.heap.size w w6) := D_w.out.trans (hbb.mono (by omega))
    clear hbb
    have O_x1 : Hid (OwPt w5.heap.size w6.heap.size w6 gp gp2 np1 Ls1 F1 nm1 M1) := hmo
    clear hmo
    have c_a1_0 := B_a1.out.cell (j := 0) rfl
    have c_a1_1 := B_a1.out.cell (j := 1) rfl
    have c_a1_2 := B_a1.out.cell (j := 2) rfl
    have l_a1 := B_a1.out.lt
    go_wp2_with fail
    obtain ⟨w7, hwd⟩ : ∃ W, W = w6.alloc (.cells #[.int .i64 c1, .slice (some ⟨gp, 0, none⟩) np1 np1, .slice (some ⟨gp2, 0, none⟩) nm1 nm1] 55) := ⟨_, rfl⟩
    have NB : Hid (Blk w7 w6.heap.size #[.int .i64 c1, .slice (some ⟨gp, 0, none⟩) np1 np1, .slice (some ⟨gp2, 0, none⟩) nm1 nm1] 55) := by rw [hwd]; exact Blk.new rfl
    have hbb : Below w6.heap.size w6 w7 := by rw [hwd]; exact (Below.refl _ _).alloc (Nat.le_refl _) _
    have yw7 : w6.heap.size + 1 ≤ w7.heap.size := by rw [hwd]; simp
    rw [← hwd]
    clear hwd
    clear c_a1_0 c_a1_1 c_a1_2 l_a1
    have zw7 : w6.heap.size ≤ w7.heap.size := hbb.size
    replace B_a1 : Hid (Blk w7 w.heap.size #[.int .i64 c1, .slice ao1 np1 cap1, .slice mo1 nm1 mc1] 62) := B_a1.out.old hbb
    replace O_x0 : Hid (OwLs w4.heap.size w5.heap.size w7 gx0 n0 L0) := O_x0.out.keep (keep_below hbb (by omega))
    replace O_x1 : Hid (OwPt w5.heap.size w6.heap.size w7 gp gp2 np1 Ls1 F1 nm1 M1) := O_x1.out.keep (keep_below hbb (by omega))
    replace D_w : Hid (Below w.heap.size w w7) := D_w.out.trans (hbb.mono (by omega))
    clear hbb
    have B_X1 := NB
    clear NB
    refine (iCheck_any HCC.out O_x0.out.rd O_x1.out.rd (by omega) (by omega) (by omega) (fun i hi => HPF.out.row hi)).mono ?_
    rintro e w8 ⟨rfl, hbb⟩
    have zw8 : w7.heap.size ≤ w8.heap.size := hbb.size
    replace B_a1 : Hid (Blk w8 w.heap.size #[.int .i64 c1, .slice ao1 np1 cap1, .slice mo1 nm1 mc1] 62) := B_a1.out.old hbb
    replace B_X1 : Hid (Blk w8 w6.heap.size #[.int .i64 c1, .slice (some ⟨gp, 0, none⟩) np1 np1, .slice (some ⟨gp2, 0, none⟩) nm1 nm1] 55) := B_X1.out.old hbb
    replace O_x0 : Hid (OwLs w4.heap.size w5.heap.size w8 gx0 n0 L0) := O_x0.out.keep (keep_below hbb (by omega))
    replace O_x1 : Hid (OwPt w5.heap.size w6.heap.size w8 gp gp2 np1 Ls1 F1 nm1 M1) := O_x1.out.keep (keep_below hbb (by omega))
    replace D_w : Hid (Below w.heap.size w w8) := D_w.out.trans (hbb.mono (by omega))
    clear hbb
    go_wp2_with fail
    refine (toLits_any (H0.out.later D_w.out) HS0.out).mono ?_
    rintro e w9 ⟨gq, rfl, hmo, hbb⟩
    have zw9 : w8.heap.size ≤ w9.heap.size := hbb.size
    replace B_a1 : Hid (Blk w9 w.heap.size #[.int .i64 c1, .slice ao1 np1 cap1, .slice mo1 nm1 mc1] 62) := B_a1.out.old hbb
    replace B_X1 : Hid (Blk w9 w6.heap.size #[.int .i64 c1, .slice (some ⟨gp, 0, none⟩) np1 np1, .slice (some ⟨gp2, 0, none⟩) nm1 nm1] 55) := B_X1.out.old hbb
    replace O_x0 : Hid (OwLs w4.heap.size w5.heap.size w9 gx0 n0 L0) := O_x0.out.keep (keep_below hbb (by omega))
    replace O_x1 : Hid (OwPt w5.heap.size w6.heap.size w9 gp gp2 np1 Ls1 F1 nm1 M1) := O_x1.out.keep (keep_below hbb (by omega))
    replace D_w : Hid (Below w.heap.size w w9) := D_w.out.trans (hbb.mono (by omega))
    clear hbb
    have O_q : Hid (OwLs w8.heap.size w9.heap.size w9 gq n0 L0) := hmo
    clear hmo
    go_wp2_with fail
    refine (eqLits_any O_x0.out.rd O_q.out.rd HS0.out).mono ?_
    rintro e w10 ⟨rfl, hbb⟩
    clear O_q
    have zw10 : w9.heap.size ≤ w10.heap.size := hbb.size
    replace B_a1 : Hid (Blk w10 w.heap.size #[.int .i64 c1, .slice ao1 np1 cap1, .slice mo1 nm1 mc1] 62) := B_a1.out.old hbb
    replace B_X1 : Hid (Blk w10 w6.heap.size #[.int .i64 c1, .slice (some ⟨gp, 0, none⟩) np1 np1, .slice (some ⟨gp2, 0, none⟩) nm1 nm1] 55) := B_X1.out.old hbb
    replace O_x0 : Hid (OwLs w4.heap.size w5.heap.size w10 gx0 n0 L0) := O_x0.out.keep (keep_below hbb (by omega))
    replace O_x1 : Hid (OwPt w5.heap.size w6.heap.size w10 gp gp2 np1 Ls1 F1 nm1 M1) := O_x1.out.keep (keep_below hbb (by omega))
    replace D_w : Hid (Below w.heap.size w w10) := D_w.out.trans (hbb.mono (by omega))
    clear hbb
    go_upto_region 16 with fail
    have KA : ∀ W, Below w10.heap.size w10 W → Hid (W.cell? ⟨w.heap.size, 0, none⟩ = some (.int .i64 c1) ∧ W.cell? ⟨w.heap.size, 1, none⟩ = some (.slice ao1 np1 cap1) ∧ W.cell? ⟨w.heap.size, 2, none⟩ = some (.slice mo1 nm1 mc1)) := fun W hb => ⟨(B_a1.out.old hb).cell rfl, (B_a1.out.old hb).cell rfl, (B_a1.out.old hb).cell rfl⟩
    have KX : ∀ W, Below w10.heap.size w10 W → Hid (W.cell? ⟨w6.heap.size, 0, none⟩ = some (.int .i64 c1) ∧ W.cell? ⟨w6.heap.size, 1, none⟩ = some (.slice (some ⟨gp, 0, none⟩) np1 np1) ∧ W.cell? ⟨w6.heap.size, 2, none⟩ = some (.slice (some ⟨gp2, 0, none⟩) nm1 nm1) ∧ RdP W (.slice (some ⟨gp, 0, none⟩) np1 np1) (.slice (some ⟨gp2, 0, none⟩) nm1 nm1) np1 Ls1 F1 nm1 M1) := fun W hb => ⟨(B_X1.out.old hb).cell rfl, (B_X1.out.old hb).cell rfl, (B_X1.out.old hb).cell rfl, O_x1.out.rd.later hb⟩
    refine wp_region_pr (by kernel_rfl) [40, 41, 42, 43, 44] (fun i v W => match i with
      | 0 => v = .agg #[.int .i64 c1, .slice (some ⟨gp, 0, none⟩) np1 np1, .slice (some ⟨gp2, 0, none⟩) nm1 nm1]
      | 1 => v = .agg #[.int .i64 c1, .slice ao1 np1 cap1, .slice mo1 nm1 mc1]
      | 2 => ∃ g g2, v = .agg #[.int .i64 c1, .slice (some ⟨g, 0, none⟩) np1 np1, .slice (some ⟨g2, 0, none⟩) nm1 nm1] ∧ RdP W (.slice (some ⟨g, 0, none⟩) np1 np1) (.slice (some ⟨g2, 0, none⟩) nm1 nm1) np1 Ls1 F1 nm1 M1
      | 3 => v = .bool true
      | 4 => v = .bool false
      | _ => True) (reg_ok (n := 45) (by decide +kernel)) ?_ ?_ ?_
    · intro i v W W2 h hb
      rcases (show i = 0 ∨ i = 1 ∨ i = 2 ∨ i = 3 ∨ i = 4 ∨ 5 ≤ i by omega) with rfl | rfl | rfl | rfl | rfl | hbig
      · exact h
      · exact h
      · exact (by obtain ⟨g, g2, e, h1⟩ := h; exact ⟨g, g2, e, h1.later hb⟩)
      · exact h
      · exact h
      · match i, hbig with | k + 5, _ => exact trivial
    · intro i o ho b W hB hbase hdep K hK
      replace hK : Hid _ := hK
      have hlt : i < 5 := by have := (List.getElem?_eq_some_iff.1 ho).1; simpa using this
      have bse8 : b.tmps[8]?.getD undef = .pointer (some ⟨w6.heap.size, 0, none⟩) := (hbase 8 (by decide)).trans rfl
      have bse3 : b.tmps[3]?.getD undef = .pointer (some ⟨w.heap.size, 0, none⟩) := (hbase 3 (by decide)).trans rfl
      clear hbase
      rcases (show i = 0 ∨ i = 1 ∨ i = 2 ∨ i = 3 ∨ i = 4 by omega) with rfl | rfl | rfl | rfl | rfl
      · simp at ho
        subst ho
        clear hdep
        obtain ⟨k0, k1, k2, -⟩ := (KX W hB).out
        go_simp
        exact hK.out _ _ (Below.refl _ _) rfl
      · simp at ho
        subst ho
        clear hdep
        obtain ⟨k0, k1, k2⟩ := (KA W hB).out
        go_simp
        exact hK.out _ _ (Below.refl _ _) rfl
      · simp at ho
        subst ho
        have d1 := hdep ⟨1, .data⟩ (by simp) (by decide)
        replace d1 : (fun (v : Value) (W : World) => v = .agg #[.int .i64 c1, .slice ao1 np1 cap1, .slice mo1 nm1 mc1]) (b.tmps[41]?.getD undef) W := d1
        dsimp only at d1
        clear hdep
        go_simp
        go_at_call 46
        refine (toPath_any (c := c1) (H1.out.later (D_w.out.trans (hB.mono (by omega)))) HPF.out).mono ?_
        rintro e W2 ⟨g, g2, rfl, hmo, hb⟩
        exact hK.out _ _ hb ⟨g, g2, rfl, hmo.rd⟩
      · simp at ho
        subst ho
        have d0 := hdep ⟨0, .data⟩ (by simp) (by decide)
        replace d0 : (fun (v : Value) (W : World) => v = .agg #[.int .i64 c1, .slice (some ⟨gp, 0, none⟩) np1 np1, .slice (some ⟨gp2, 0, none⟩) nm1 nm1]) (b.tmps[40]?.getD undef) W := d0
        dsimp only at d0
        have d2 := hdep ⟨2, .data⟩ (by simp) (by decide)
        replace d2 : (fun (v : Value) (W : World) => ∃ g g2, v = .agg #[.int .i64 c1, .slice (some ⟨g, 0, none⟩) np1 np1, .slice (some ⟨g2, 0, none⟩) nm1 nm1] ∧ RdP W (.slice (some ⟨g, 0, none⟩) np1 np1) (.slice (some ⟨g2, 0, none⟩) nm1 nm1) np1 Ls1 F1 nm1 M1) (b.tmps[42]?.getD undef) W := d2
        dsimp only at d2
        clear hdep
        obtain ⟨gq, gq2, ep, hp⟩ := d2
        have hx := (KX W hB).out.2.2.2
        go_simp
        go_at_call 39
        refine (eqPath_any hx hp (by omega) (fun i hi => HPF.out.row hi) (by omega)).mono ?_
        rintro e W2 ⟨rfl, hb⟩
        exact hK.out _ _ hb rfl
      · simp at ho
        subst ho
        have d3 := hdep ⟨3, .data⟩ (by simp) (by decide)
        replace d3 : (fun (v : Value) (W : World) => v = .bool true) (b.tmps[43]?.getD undef) W := d3
        dsimp only at d3
        clear hdep
        go_simp
        exact hK.out _ _ (Below.refl _ _) rfl
    · intro vs W hB hP
      have v2 := hP 2 (by decide)
      replace v2 : (fun (v : Value) (W : World) => ∃ g g2, v = .agg #[.int .i64 c1, .slice (some ⟨g, 0, none⟩) np1 np1, .slice (some ⟨g2, 0, none⟩) nm1 nm1] ∧ RdP W (.slice (some ⟨g, 0, none⟩) np1 np1) (.slice (some ⟨g2, 0, none⟩) nm1 nm1) np1 Ls1 F1 nm1 M1) (vs 2) W := v2
      dsimp only at v2
      have v4 := hP 4 (by decide)
      replace v4 : (fun (v : Value) (W : World) => v = .bool false) (vs 4) W := v4
      dsimp only at v4
      clear hP
      simp only [putD, Act.put, List.setIfInBounds_toArray, List.set_cons_succ, List.set_cons_zero, Nat.reduceAdd]
      obtain ⟨w11, rfl⟩ : ∃ v, v = W := ⟨_, rfl⟩
      rw [v4]
      clear v4 KA KX
      replace D_w : Hid (Below w.heap.size w w11) := D_w.out.trans (hB.mono (by omega))
      clear hB
      go_wp2
      go_ret
      exact ⟨rfl, D_w.out⟩

set_option maxRecDepth 100000 in
theorem lifted (os : Os) (started : os.Started) (H : Type) (enc : TypeId × Value → H) :
    ReturnsInHanded {} Try.checked os 9 .any (Rows.fnExactCheckDescentSpec.pre6 enc Try.prog Try.f9 Rows.fnExactCheckDescentRow.domain false) (Rows.fnExactCheckDescentSpec.post enc Try.prog Try.f9 false true false false) := by
  refine returnsInHanded_of_change (C := Try.checked) own started (by kernel_rfl) Try.func9
    (ChangeSpec.witness6 (enc := enc) (C := Try.checked) false ⟨#[], #[.slice none 0 0, .agg #[.int .i64 0, .slice none 0 0, .slice none 0 0]], []⟩ 8 (by kernel_rfl) (by kernel_rfl) (by kernel_rfl) (by kernel_rfl)) ?_
  intro W base args ds gs before hval0 hW hcnd _
  have hval : ∀ (j : Nat) t v, Try.f9.params[j]? = some t → args[j]? = some v → Value.okWide Try.prog W .any base t v := hval0
  have hW' := hW
  obtain ⟨p, q, hA0, hV, rfl, hfz, hnd⟩ := hW
  have hA : DataW.TrodAll enc Try.prog W 0 (fun _ => true) true Try.f9.params.toList args.toList ds p := hA0
  rw [Try.params9] at hA hval
  obtain ⟨v0, vs0, d0, ds0, p0, q0, hargs, rfl, rfl, h0, r0⟩ := trodAll_cons hA
  obtain ⟨v1, vs1, d1, ds1, p1, q1, rfl, rfl, rfl, h1, r1⟩ := trodAll_cons r0
  obtain ⟨rfl, rfl, rfl⟩ := trodAll_nil r1
  obtain rfl : args = #[v0, v1] := by cases args; simp_all
  obtain ⟨rfl, rfl⟩ := trodVars_none hV
  have k0 := h0
  have lt0 : ∀ x ∈ p0, x.block < W.heap.size := by obtain ⟨m, hm⟩ := k0; exact DataW.trod_lt m _ _ _ hm
  obtain ⟨n0, L0, R0, nb0, lb0⟩ := open_aims (hval 0 42 v0 rfl rfl) h0
  have k1 := h1
  have lt1 : ∀ x ∈ p1, x.block < W.heap.size := by obtain ⟨m, hm⟩ := k1; exact DataW.trod_lt m _ _ _ hm
  obtain ⟨c1, ao1, mo1, np1, cap1, nm1, mc1, Ls1, F1, M1, rfl, -, -, R1, nb1, lb1, nc1⟩ := open_path (hval 1 62 v1 rfl rfl) h1
  clear hA0 hval0
  refine (walk R0 nb0 lb0 R1 nb1 lb1 nc1).mono fun e W' ⟨he, bel⟩ => ?_
  subst he
  exact ⟨_, rfl, _, _, _, [], _, [], hW', trodAll_mk1 (shut_bool Try.underlying4 _), (trodAll_cons_mk (Below.trod laidOut (by kernel_rfl) (of_decide_eq_true (by kernel_rfl)) k0 bel lt0) (trodAll_cons_mk (Below.trod laidOut (by kernel_rfl) (of_decide_eq_true (by kernel_rfl)) k1 bel lt1) trodAll_mk0)), rfl, bel.frame _, fun h => by cases h⟩

theorem over : Rows.fnExactCheckDescentRow.holds Try.pinned (OpenSpec.ofChange Rows.fnExactCheckDescentSpec) :=
  OpenClaim.holds_of_wide_leaving 9 Try.f9 rfl rfl rfl rfl rfl rfl rfl ⟨rfl, rfl, rfl, rfl, rfl⟩ rfl rfl rfl rfl rfl (by kernel_rfl) Try.func9 (by kernel_rfl)
    (of_decide_eq_true (by kernel_rfl)) (by unfold Func.isWrapper; first | (rw [if_pos (by decide +kernel)]; kernel_rfl) | (rw [if_neg (by decide +kernel)]; exact ⟨rfl, rfl⟩))
    (fun os started H enc _ => leave_of_handed (lifted os started H enc))
end Go.Proofs.Ytelejihgechmgaa.LawCheckDescent
namespace Go.Proofs.Ytelejihgechmgaa
theorem checkDescent_holds : Rows.FnExactCheckDescentSaid := LawCheckDescent.over
#print axioms checkDescent_holds
end Go.Proofs.Ytelejihgechmgaa
