/- At every frame the program's WriteFrame answers as the specification, code and bytes, where the law's own bound on the size does not answer first; what it answers owns its memory, behind another call too; nothing that was there is changed. Conditions: the library's variable errors.errorType starts as its text lays it (the card ties it). -/
import Derived.Test.YtdknclkecbdpgaaDoorRows
import Derived.Test.YtdknclkecbdpgaaDoorCards
import Derived.Test.YtdknclkecbdpgaaDoorTie
import Derived.Test.YtdknclkecbdpgaaDoorWi
import Derived.Handy
import Derived.WalkKit
import Derived.Deep.RegionHeld3
import Derived.Deep.DeepCutAuto
namespace Go.Proofs.YtdknclkecbdpgaaDoor.LawWriteFrame
open Go.ChangeShapes Go.WideShapes Go.ChangeAt Go.RowKit Go.Joins
set_option linter.unusedVariables false
set_option maxRecDepth 20000 in
set_option maxHeartbeats 6400000 in
theorem walk {w : World} {v0 : Value} {n : Nat} {F : Nat → Int} {kd : Int} (h0 : RdG w v0 n (cF F)) (hn0 : n ≤ 9223372036854775807) (hF : By n F) (TB : Et w) :
    Calls Tryd.prog 5 #[.agg #[.int .i64 kd, v0]] w fun e w' => e = .returned (.bool true) ∧ Below w.heap.size w w' := by
  obtain ⟨ao0, cap0, ev0⟩ := h0.form
  subst ev0
  have RA : Hid (RdG w (.slice ao0 n cap0) n (cF F)) := h0
  have HE0 : Hid (Et w) := TB
  have HS : Hid (∀ W, Calls Tryd.prog 29 #[.agg #[.int .i64 kd, .slice ao0 n cap0], .int .i64 1048576] W fun e w' => e = .returned (.int .i64 (if n ≤ 1048576 then 1048576 - (n : Int) else -1)) ∧ Below W.heap.size W w') := szFrm_any kd ao0 n cap0 hn0
  by_cases hbig : ¬ n ≤ 1048576
  · rw [if_neg hbig] at HS
    obtain ⟨w1, hwd⟩ : ∃ W, W = w.alloc (.cells #[.int .i64 kd, .slice ao0 n cap0] 44) := ⟨_, rfl⟩
    have hb : Hid (Below w.heap.size w w1) := by show Below _ _ _; rw [hwd]; exact (Below.refl _ _).alloc (Nat.le_refl _) _
    clear h0 TB
    go_enter Tryd.func5, Tryd.ntmps5
    go_wp2_with fail
    rw [← hwd]
    refine (HS.out _).mono ?_
    rintro e w2 ⟨rfl, b2⟩
    have hb2 : Hid (Below w.heap.size w w2) := hb.out.trans (b2.mono hb.out.size)
    clear b2
    go_wp2
    go_ret
    exact ⟨rfl, hb2.out⟩
  have hp0 : n ≤ 1048576 := by omega
  rw [if_pos hp0] at HS
  have hm : n ≤ 1000000000000 := by omega
  obtain ⟨L, hL⟩ : ∃ L : Int, L = 1048576 - (n : Int) := ⟨_, rfl⟩
  have hL0 : ¬ L < 0 := by omega
  have hL1 : decide (L < 0) = false := by simp; omega
  rw [← hL] at HS
  clear hL
  obtain ⟨c, N, f, hN, SC0, IC0⟩ := wf_both kd n F hF hm
  have SC : Hid (∀ (W : World) (lo hi b : Nat), OwS 5 lo hi W (.slice (some ⟨b, 0, none⟩) n n) n (cF F) → FB 5 30 #[.agg #[.int .i64 kd, .slice (some ⟨b, 0, none⟩) n n]] W c N (cF f)) := fun W lo hi b h => SC0 W b 0 n h.cellsOf
  have IC : Hid (∀ (W : World) (lo hi b : Nat), OwS 5 lo hi W (.slice (some ⟨b, 0, none⟩) n n) n (cF F) → Et W → FB 5 32 #[.agg #[.int .i64 kd, .slice (some ⟨b, 0, none⟩) n n]] W c N (cF f)) := fun W lo hi b h hE => IC0 W b 0 n h.cellsOf hE
  clear h0 TB SC0 IC0 hF
  have hN2 : N ≤ 1000000000000 := by omega
  obtain ⟨M, hM⟩ : ∃ M : Int, M = 1 + n := ⟨_, rfl⟩
  obtain ⟨Q, hQ⟩ : ∃ M : Int, M = 1 + N := ⟨_, rfl⟩
  have hM0 : ¬ M < 0 := by omega
  have hM1 : decide (M < 0) = false := by simp; omega
  have hQ0 : ¬ Q < 0 := by omega
  have hQ1 : decide (Q < 0) = false := by simp; omega
  have hQ2 : (Q != Q) = false := by simp
  have MX : Hid (∀ (lo hi : Nat) (W : World) (v : Value), lo ≤ W.heap.size → OwS 5 lo hi W v n (cF F) → Calls Tryd.prog 35 #[.agg #[.int .i64 kd, v], .int .i64 1] W fun e w' => e = .returned (.int .i64 M) ∧ OwS 5 lo hi w' v n (fun i => .int .u8 ((1 + i) % 256)) ∧ Within lo hi W w' ∧ W.heap.size ≤ w'.heap.size) := fun lo hi W v hl h => by rw [hM]; exact markFrm_own h hl 1 (by omega) (by omega)
  have MK : Hid (∀ (lo hi : Nat) (W : World) (v : Value), lo ≤ W.heap.size → OwS 5 lo hi W v N (cF f) → Calls Tryd.prog 36 #[.agg #[.int .i64 c, v], .int .i64 1] W fun e w' => e = .returned (.int .i64 Q) ∧ OwS 5 lo hi w' v N (fun i => .int .u8 ((1 + i) % 256)) ∧ Within lo hi W w' ∧ W.heap.size ≤ w'.heap.size) := fun lo hi W v hl h => by rw [hQ]; exact markFb_own h hl 1 (by omega) (by omega)
  have HL : Hid (∀ (lo hi : Nat) (W : World) (v : Value), OwS 5 lo hi W v N (fun i => .int .u8 ((1 + i) % 256)) → Calls Tryd.prog 37 #[.agg #[.int .i64 c, v], .int .i64 1] W fun e w' => e = .returned (.int .i64 Q) ∧ Below W.heap.size W w') := fun lo hi W v h => by rw [hQ]; exact heldFb_own h (by omega) (by omega)
  clear hM hQ
  have HO : Hid (Below w.heap.size w w) := Below.refl _ _
  go_enter Tryd.func5, Tryd.ntmps5
  go_wp2_with fail
  obtain ⟨w1, hwd⟩ : ∃ W, W = w.alloc (.cells #[.int .i64 kd, .slice ao0 n cap0] 44) := ⟨_, rfl⟩
  have BA : Hid (Blk w1 w.heap.size #[.int .i64 kd, .slice ao0 n cap0] 44) := by show Blk _ _ _ _; rw [hwd]; exact Blk.new rfl
  have b : Below w.heap.size w w1 := by rw [hwd]; exact (Below.refl _ _).alloc (Nat.le_refl _) _
  have Y1 : Hid (w.heap.size + 1 ≤ w1.heap.size) := by show _ ≤ _; rw [hwd]; simp
  rw [← hwd]
  clear hwd
  have Z1 : Hid (w.heap.size ≤ w1.heap.size) := b.size
  replace HO : Hid (Below w.heap.size w w1) := HO.out.trans (b.mono HO.out.size)
  clear b
  skip
  refine (HS.out _).mono ?_
  rintro e w2 ⟨rfl, b⟩
  replace BA : Hid (Blk w2 w.heap.size #[.int .i64 kd, .slice ao0 n cap0] 44) := BA.out.later b
  have Z2 : Hid (w1.heap.size ≤ w2.heap.size) := b.size
  replace HO : Hid (Below w.heap.size w w2) := HO.out.trans (b.mono HO.out.size)
  clear b
  have ca0 := BA.out.cell (j := 0) (v := .int .i64 kd) rfl
  have ca1 := BA.out.cell (j := 1) (v := .slice ao0 n cap0) rfl
  go_wp2_with fail
  refine (toFrm_any (kd := kd) (RA.out.later HO.out) hm).mono ?_
  rintro e w3 ⟨g1, rfl, og1, b⟩
  have X1 : Hid (OwS 5 w2.heap.size w3.heap.size w3 (.slice (some ⟨g1, 0, none⟩) n n) n (cF F)) := og1
  clear og1
  replace BA : Hid (Blk w3 w.heap.size #[.int .i64 kd, .slice ao0 n cap0] 44) := BA.out.later b
  have Z3 : Hid (w2.heap.size ≤ w3.heap.size) := b.size
  replace HO : Hid (Below w.heap.size w w3) := HO.out.trans (b.mono HO.out.size)
  clear b
  clear ca0 ca1
  go_wp2_with fail
  refine (SC.out _ _ _ _ X1.out).mono ?_
  rintro e w4 ⟨vs, rfl, os, b⟩
  obtain ⟨sao, scap, rfl⟩ := os.form
  have OS : Hid (OwS 5 w3.heap.size w4.heap.size w4 (.slice sao N scap) N (cF f)) := os
  clear os
  replace BA : Hid (Blk w4 w.heap.size #[.int .i64 kd, .slice ao0 n cap0] 44) := BA.out.later b
  replace X1 : Hid (OwS 5 w2.heap.size w3.heap.size w4 (.slice (some ⟨g1, 0, none⟩) n n) n (cF F)) := X1.out.later b
  have Z4 : Hid (w3.heap.size ≤ w4.heap.size) := b.size
  replace HO : Hid (Below w.heap.size w w4) := HO.out.trans (b.mono HO.out.size)
  clear b
  go_upto_region 6 with fail
  obtain ⟨w5, hwd⟩ : ∃ W, W = w4.alloc (.cells #[.int .i64 c, .slice sao N scap] 47) := ⟨_, rfl⟩
  have BS : Hid (Blk w5 w4.heap.size #[.int .i64 c, .slice sao N scap] 47) := by show Blk _ _ _ _; rw [hwd]; exact Blk.new rfl
  have b : Below w4.heap.size w4 w5 := by rw [hwd]; exact (Below.refl _ _).alloc (Nat.le_refl _) _
  have Y5 : Hid (w4.heap.size + 1 ≤ w5.heap.size) := by show _ ≤ _; rw [hwd]; simp
  rw [← hwd]
  clear hwd
  replace BA : Hid (Blk w5 w.heap.size #[.int .i64 kd, .slice ao0 n cap0] 44) := BA.out.later b
  replace X1 : Hid (OwS 5 w2.heap.size w3.heap.size w5 (.slice (some ⟨g1, 0, none⟩) n n) n (cF F)) := X1.out.later b
  replace OS : Hid (OwS 5 w3.heap.size w4.heap.size w5 (.slice sao N scap) N (cF f)) := OS.out.later b
  have Z5 : Hid (w4.heap.size ≤ w5.heap.size) := b.size
  replace HO : Hid (Below w.heap.size w w5) := HO.out.trans (b.mono HO.out.size)
  clear b
  clear X1
  have ca0 := BA.out.cell (j := 0) (v := .int .i64 kd) rfl
  have ca1 := BA.out.cell (j := 1) (v := .slice ao0 n cap0) rfl
  go_wp2_with fail
  refine (toFrm_any (kd := kd) (RA.out.later HO.out) hm).mono ?_
  rintro e w6 ⟨gx, rfl, ogx, b⟩
  have XS : Hid (OwS 5 w5.heap.size w6.heap.size w6 (.slice (some ⟨gx, 0, none⟩) n n) n (cF F)) := ogx
  clear ogx
  replace BA : Hid (Blk w6 w.heap.size #[.int .i64 kd, .slice ao0 n cap0] 44) := BA.out.later b
  replace OS : Hid (OwS 5 w3.heap.size w4.heap.size w6 (.slice sao N scap) N (cF f)) := OS.out.later b
  replace BS : Hid (Blk w6 w4.heap.size #[.int .i64 c, .slice sao N scap] 47) := BS.out.later b
  have Z6 : Hid (w5.heap.size ≤ w6.heap.size) := b.size
  replace HO : Hid (Below w.heap.size w w6) := HO.out.trans (b.mono HO.out.size)
  clear b
  clear ca0 ca1
  go_upto_region 7 with fail
  obtain ⟨w7, hwd⟩ : ∃ W, W = w6.alloc (.cells #[.int .i64 kd, .slice (some ⟨gx, 0, none⟩) n n] 49) := ⟨_, rfl⟩
  have BX : Hid (Blk w7 w6.heap.size #[.int .i64 kd, .slice (some ⟨gx, 0, none⟩) n n] 49) := by show Blk _ _ _ _; rw [hwd]; exact Blk.new rfl
  have b : Below w6.heap.size w6 w7 := by rw [hwd]; exact (Below.refl _ _).alloc (Nat.le_refl _) _
  have Y7 : Hid (w6.heap.size + 1 ≤ w7.heap.size) := by show _ ≤ _; rw [hwd]; simp
  rw [← hwd]
  clear hwd
  replace BA : Hid (Blk w7 w.heap.size #[.int .i64 kd, .slice ao0 n cap0] 44) := BA.out.later b
  replace OS : Hid (OwS 5 w3.heap.size w4.heap.size w7 (.slice sao N scap) N (cF f)) := OS.out.later b
  replace BS : Hid (Blk w7 w4.heap.size #[.int .i64 c, .slice sao N scap] 47) := BS.out.later b
  replace XS : Hid (OwS 5 w5.heap.size w6.heap.size w7 (.slice (some ⟨gx, 0, none⟩) n n) n (cF F)) := XS.out.later b
  have Z7 : Hid (w6.heap.size ≤ w7.heap.size) := b.size
  replace HO : Hid (Below w.heap.size w w7) := HO.out.trans (b.mono HO.out.size)
  clear b
  have cx0 := BX.out.cell (j := 0) (v := .int .i64 kd) rfl
  have cx1 := BX.out.cell (j := 1) (v := .slice (some ⟨gx, 0, none⟩) n n) rfl
  go_wp2_with fail
  refine (IC.out _ _ _ _ XS.out (HE0.out.later HO.out)).mono ?_
  rintro e w8 ⟨vg, rfl, og, b⟩
  obtain ⟨gao, gcap, rfl⟩ := og.form
  have OG : Hid (OwS 5 w7.heap.size w8.heap.size w8 (.slice gao N gcap) N (cF f)) := og
  clear og
  replace BA : Hid (Blk w8 w.heap.size #[.int .i64 kd, .slice ao0 n cap0] 44) := BA.out.later b
  replace OS : Hid (OwS 5 w3.heap.size w4.heap.size w8 (.slice sao N scap) N (cF f)) := OS.out.later b
  replace BS : Hid (Blk w8 w4.heap.size #[.int .i64 c, .slice sao N scap] 47) := BS.out.later b
  replace XS : Hid (OwS 5 w5.heap.size w6.heap.size w8 (.slice (some ⟨gx, 0, none⟩) n n) n (cF F)) := XS.out.later b
  replace BX : Hid (Blk w8 w6.heap.size #[.int .i64 kd, .slice (some ⟨gx, 0, none⟩) n n] 49) := BX.out.later b
  have Z8 : Hid (w7.heap.size ≤ w8.heap.size) := b.size
  replace HO : Hid (Below w.heap.size w w8) := HO.out.trans (b.mono HO.out.size)
  clear b
  go_upto_region 8 with fail
  obtain ⟨w9, hwd⟩ : ∃ W, W = w8.alloc (.cells #[.int .i64 c, .slice gao N gcap] 47) := ⟨_, rfl⟩
  have BG : Hid (Blk w9 w8.heap.size #[.int .i64 c, .slice gao N gcap] 47) := by show Blk _ _ _ _; rw [hwd]; exact Blk.new rfl
  have b : Below w8.heap.size w8 w9 := by rw [hwd]; exact (Below.refl _ _).alloc (Nat.le_refl _) _
  have Y9 : Hid (w8.heap.size + 1 ≤ w9.heap.size) := by show _ ≤ _; rw [hwd]; simp
  rw [← hwd]
  clear hwd
  replace BA : Hid (Blk w9 w.heap.size #[.int .i64 kd, .slice ao0 n cap0] 44) := BA.out.later b
  replace OS : Hid (OwS 5 w3.heap.size w4.heap.size w9 (.slice sao N scap) N (cF f)) := OS.out.later b
  replace BS : Hid (Blk w9 w4.heap.size #[.int .i64 c, .slice sao N scap] 47) := BS.out.later b
  replace XS : Hid (OwS 5 w5.heap.size w6.heap.size w9 (.slice (some ⟨gx, 0, none⟩) n n) n (cF F)) := XS.out.later b
  replace BX : Hid (Blk w9 w6.heap.size #[.int .i64 kd, .slice (some ⟨gx, 0, none⟩) n n] 49) := BX.out.later b
  replace OG : Hid (OwS 5 w7.heap.size w8.heap.size w9 (.slice gao N gcap) N (cF f)) := OG.out.later b
  have Z9 : Hid (w8.heap.size ≤ w9.heap.size) := b.size
  replace HO : Hid (Below w.heap.size w w9) := HO.out.trans (b.mono HO.out.size)
  clear b
  clear cx0 cx1
  have cs0 := BS.out.cell (j := 0) (v := .int .i64 c) rfl
  have cs1 := BS.out.cell (j := 1) (v := .slice sao N scap) rfl
  have cg0 := BG.out.cell (j := 0) (v := .int .i64 c) rfl
  have cg1 := BG.out.cell (j := 1) (v := .slice gao N gcap) rfl
  go_wp2_with fail
  refine (eqFb_same OG.out.rd OS.out.rd hN2).mono ?_
  rintro e w10 ⟨rfl, b⟩
  replace BA : Hid (Blk w10 w.heap.size #[.int .i64 kd, .slice ao0 n cap0] 44) := BA.out.later b
  replace OS : Hid (OwS 5 w3.heap.size w4.heap.size w10 (.slice sao N scap) N (cF f)) := OS.out.later b
  replace BS : Hid (Blk w10 w4.heap.size #[.int .i64 c, .slice sao N scap] 47) := BS.out.later b
  replace XS : Hid (OwS 5 w5.heap.size w6.heap.size w10 (.slice (some ⟨gx, 0, none⟩) n n) n (cF F)) := XS.out.later b
  replace BX : Hid (Blk w10 w6.heap.size #[.int .i64 kd, .slice (some ⟨gx, 0, none⟩) n n] 49) := BX.out.later b
  replace OG : Hid (OwS 5 w7.heap.size w8.heap.size w10 (.slice gao N gcap) N (cF f)) := OG.out.later b
  replace BG : Hid (Blk w10 w8.heap.size #[.int .i64 c, .slice gao N gcap] 47) := BG.out.later b
  have Z10 : Hid (w9.heap.size ≤ w10.heap.size) := b.size
  replace HO : Hid (Below w.heap.size w w10) := HO.out.trans (b.mono HO.out.size)
  clear b
  clear cs0 cs1 cg0 cg1
  go_upto_region 10 with fail
  have ca0 := BA.out.cell (j := 0) (v := .int .i64 kd) rfl
  have ca1 := BA.out.cell (j := 1) (v := .slice ao0 n cap0) rfl
  have cx0 := BX.out.cell (j := 0) (v := .int .i64 kd) rfl
  have cx1 := BX.out.cell (j := 1) (v := .slice (some ⟨gx, 0, none⟩) n n) rfl
  have HRA : Hid (RdG w10.drew (.slice ao0 n cap0) n (cF F)) := RA.out.later (HO.out.drew)
  go_cut [31] (fun v wx => v = .bool false ∧ Below w10.heap.size w10 wx)
  case first =>
    go_region_law (first | (go_simp; go_at_call 31; refine (toFrm_any (kd := kd) HRA.out hm).mono ?_; rintro e y1 ⟨g2, rfl, o2, b2⟩; have B1 : Below w10.heap.size w10 y1 := (Below.refl _ _).drew.trans b2; have HY : Hid (Blk y1 _ _ _) := BX.out.later B1; have cy0 := HY.out.cell (j := 0) (v := .int .i64 kd) rfl; have cy1 := HY.out.cell (j := 1) (v := .slice (some ⟨gx, 0, none⟩) n n) rfl) | (go_simp; go_at_call 34; refine (eqFrm_same (XS.out.rd.later B1) o2.rd hm).mono ?_; rintro e y2 ⟨rfl, b3⟩))
    all_goals
      go_wp2_with fail
      go_meet
      case rel =>
        exact ⟨rfl, B1.trans (b3.mono B1.size)⟩
  case rest =>
    obtain ⟨rfl, b⟩ := hcut
    clear HRA
    clear ca0 ca1 cx0 cx1
    obtain ⟨w11, hv⟩ : ∃ v, v = wc := ⟨_, rfl⟩
    subst hv
    replace BA : Hid (Blk w11 w.heap.size #[.int .i64 kd, .slice ao0 n cap0] 44) := BA.out.later b
    replace OS : Hid (OwS 5 w3.heap.size w4.heap.size w11 (.slice sao N scap) N (cF f)) := OS.out.later b
    replace BS : Hid (Blk w11 w4.heap.size #[.int .i64 c, .slice sao N scap] 47) := BS.out.later b
    replace XS : Hid (OwS 5 w5.heap.size w6.heap.size w11 (.slice (some ⟨gx, 0, none⟩) n n) n (cF F)) := XS.out.later b
    replace BX : Hid (Blk w11 w6.heap.size #[.int .i64 kd, .slice (some ⟨gx, 0, none⟩) n n] 49) := BX.out.later b
    replace OG : Hid (OwS 5 w7.heap.size w8.heap.size w11 (.slice gao N gcap) N (cF f)) := OG.out.later b
    replace BG : Hid (Blk w11 w8.heap.size #[.int .i64 c, .slice gao N gcap] 47) := BG.out.later b
    have Z11 : Hid (w10.heap.size ≤ w11.heap.size) := b.size
    replace HO : Hid (Below w.heap.size w w11) := HO.out.trans (b.mono HO.out.size)
    clear b
    have cx0 := BX.out.cell (j := 0) (v := .int .i64 kd) rfl
    have cx1 := BX.out.cell (j := 1) (v := .slice (some ⟨gx, 0, none⟩) n n) rfl
    go_wp2_with fail
    refine (MX.out _ _ _ _ (by have := Y1.out; have := Z1.out; have := Z2.out; have := Z3.out; have := Z4.out; have := Y5.out; have := Z5.out; have := Z6.out; have := Y7.out; have := Z7.out; have := Z8.out; have := Y9.out; have := Z9.out; have := Z10.out; have := Z11.out; omega) XS.out).mono ?_
    rintro e w12 ⟨rfl, sm, wi, zm⟩
    have Z12 : Hid (w11.heap.size ≤ w12.heap.size) := zm
    replace BA : Hid (Blk w12 w.heap.size #[.int .i64 kd, .slice ao0 n cap0] 44) := BA.out.under wi (by have := Y1.out; have := Z1.out; have := Z2.out; have := Z3.out; have := Z4.out; have := Y5.out; have := Z5.out; have := Z6.out; have := Y7.out; have := Z7.out; have := Z8.out; have := Y9.out; have := Z9.out; have := Z10.out; have := Z11.out; have := Z12.out; omega)
    replace OS : Hid (OwS 5 w3.heap.size w4.heap.size w12 (.slice sao N scap) N (cF f)) := OS.out.under wi (by have := Y1.out; have := Z1.out; have := Z2.out; have := Z3.out; have := Z4.out; have := Y5.out; have := Z5.out; have := Z6.out; have := Y7.out; have := Z7.out; have := Z8.out; have := Y9.out; have := Z9.out; have := Z10.out; have := Z11.out; have := Z12.out; omega)
    replace BS : Hid (Blk w12 w4.heap.size #[.int .i64 c, .slice sao N scap] 47) := BS.out.under wi (by have := Y1.out; have := Z1.out; have := Z2.out; have := Z3.out; have := Z4.out; have := Y5.out; have := Z5.out; have := Z6.out; have := Y7.out; have := Z7.out; have := Z8.out; have := Y9.out; have := Z9.out; have := Z10.out; have := Z11.out; have := Z12.out; omega)
    replace BX : Hid (Blk w12 w6.heap.size #[.int .i64 kd, .slice (some ⟨gx, 0, none⟩) n n] 49) := BX.out.under wi (by have := Y1.out; have := Z1.out; have := Z2.out; have := Z3.out; have := Z4.out; have := Y5.out; have := Z5.out; have := Z6.out; have := Y7.out; have := Z7.out; have := Z8.out; have := Y9.out; have := Z9.out; have := Z10.out; have := Z11.out; have := Z12.out; omega)
    replace OG : Hid (OwS 5 w7.heap.size w8.heap.size w12 (.slice gao N gcap) N (cF f)) := OG.out.under wi (by have := Y1.out; have := Z1.out; have := Z2.out; have := Z3.out; have := Z4.out; have := Y5.out; have := Z5.out; have := Z6.out; have := Y7.out; have := Z7.out; have := Z8.out; have := Y9.out; have := Z9.out; have := Z10.out; have := Z11.out; have := Z12.out; omega)
    replace BG : Hid (Blk w12 w8.heap.size #[.int .i64 c, .slice gao N gcap] 47) := BG.out.under wi (by have := Y1.out; have := Z1.out; have := Z2.out; have := Z3.out; have := Z4.out; have := Y5.out; have := Z5.out; have := Z6.out; have := Y7.out; have := Z7.out; have := Z8.out; have := Y9.out; have := Z9.out; have := Z10.out; have := Z11.out; have := Z12.out; omega)
    replace XS : Hid (OwS 5 w5.heap.size w6.heap.size w12 (.slice (some ⟨gx, 0, none⟩) n n) n (fun i => .int .u8 ((1 + i) % 256))) := sm
    replace HO : Hid (Below w.heap.size w w12) := HO.out.trans (wi.below.mono (by have := Y1.out; have := Z1.out; have := Z2.out; have := Z3.out; have := Z4.out; have := Y5.out; have := Z5.out; have := Z6.out; have := Y7.out; have := Z7.out; have := Z8.out; have := Y9.out; have := Z9.out; have := Z10.out; have := Z11.out; have := Z12.out; omega))
    clear wi zm sm
    clear cx0 cx1
    clear XS
    have cs0 := BS.out.cell (j := 0) (v := .int .i64 c) rfl
    have cs1 := BS.out.cell (j := 1) (v := .slice sao N scap) rfl
    have cg0 := BG.out.cell (j := 0) (v := .int .i64 c) rfl
    have cg1 := BG.out.cell (j := 1) (v := .slice gao N gcap) rfl
    go_wp2_with fail
    refine (eqFb_same OG.out.rd OS.out.rd hN2).mono ?_
    rintro e w13 ⟨rfl, b⟩
    replace BA : Hid (Blk w13 w.heap.size #[.int .i64 kd, .slice ao0 n cap0] 44) := BA.out.later b
    replace OS : Hid (OwS 5 w3.heap.size w4.heap.size w13 (.slice sao N scap) N (cF f)) := OS.out.later b
    replace BS : Hid (Blk w13 w4.heap.size #[.int .i64 c, .slice sao N scap] 47) := BS.out.later b
    replace BX : Hid (Blk w13 w6.heap.size #[.int .i64 kd, .slice (some ⟨gx, 0, none⟩) n n] 49) := BX.out.later b
    replace OG : Hid (OwS 5 w7.heap.size w8.heap.size w13 (.slice gao N gcap) N (cF f)) := OG.out.later b
    replace BG : Hid (Blk w13 w8.heap.size #[.int .i64 c, .slice gao N gcap] 47) := BG.out.later b
    have Z13 : Hid (w12.heap.size ≤ w13.heap.size) := b.size
    replace HO : Hid (Below w.heap.size w w13) := HO.out.trans (b.mono HO.out.size)
    clear b
    clear cs0 cs1 cg0 cg1
    have cg0 := BG.out.cell (j := 0) (v := .int .i64 c) rfl
    have cg1 := BG.out.cell (j := 1) (v := .slice gao N gcap) rfl
    go_wp2_with fail
    refine (MK.out _ _ _ _ (by have := Y1.out; have := Z1.out; have := Z2.out; have := Z3.out; have := Z4.out; have := Y5.out; have := Z5.out; have := Z6.out; have := Y7.out; have := Z7.out; have := Z8.out; have := Y9.out; have := Z9.out; have := Z10.out; have := Z11.out; have := Z12.out; have := Z13.out; omega) OG.out).mono ?_
    rintro e w14 ⟨rfl, sm, wi, zm⟩
    have Z14 : Hid (w13.heap.size ≤ w14.heap.size) := zm
    replace BA : Hid (Blk w14 w.heap.size #[.int .i64 kd, .slice ao0 n cap0] 44) := BA.out.under wi (by have := Y1.out; have := Z1.out; have := Z2.out; have := Z3.out; have := Z4.out; have := Y5.out; have := Z5.out; have := Z6.out; have := Y7.out; have := Z7.out; have := Z8.out; have := Y9.out; have := Z9.out; have := Z10.out; have := Z11.out; have := Z12.out; have := Z13.out; have := Z14.out; omega)
    replace OS : Hid (OwS 5 w3.heap.size w4.heap.size w14 (.slice sao N scap) N (cF f)) := OS.out.under wi (by have := Y1.out; have := Z1.out; have := Z2.out; have := Z3.out; have := Z4.out; have := Y5.out; have := Z5.out; have := Z6.out; have := Y7.out; have := Z7.out; have := Z8.out; have := Y9.out; have := Z9.out; have := Z10.out; have := Z11.out; have := Z12.out; have := Z13.out; have := Z14.out; omega)
    replace BS : Hid (Blk w14 w4.heap.size #[.int .i64 c, .slice sao N scap] 47) := BS.out.under wi (by have := Y1.out; have := Z1.out; have := Z2.out; have := Z3.out; have := Z4.out; have := Y5.out; have := Z5.out; have := Z6.out; have := Y7.out; have := Z7.out; have := Z8.out; have := Y9.out; have := Z9.out; have := Z10.out; have := Z11.out; have := Z12.out; have := Z13.out; have := Z14.out; omega)
    replace BX : Hid (Blk w14 w6.heap.size #[.int .i64 kd, .slice (some ⟨gx, 0, none⟩) n n] 49) := BX.out.under wi (by have := Y1.out; have := Z1.out; have := Z2.out; have := Z3.out; have := Z4.out; have := Y5.out; have := Z5.out; have := Z6.out; have := Y7.out; have := Z7.out; have := Z8.out; have := Y9.out; have := Z9.out; have := Z10.out; have := Z11.out; have := Z12.out; have := Z13.out; have := Z14.out; omega)
    replace BG : Hid (Blk w14 w8.heap.size #[.int .i64 c, .slice gao N gcap] 47) := BG.out.under wi (by have := Y1.out; have := Z1.out; have := Z2.out; have := Z3.out; have := Z4.out; have := Y5.out; have := Z5.out; have := Z6.out; have := Y7.out; have := Z7.out; have := Z8.out; have := Y9.out; have := Z9.out; have := Z10.out; have := Z11.out; have := Z12.out; have := Z13.out; have := Z14.out; omega)
    replace OG : Hid (OwS 5 w7.heap.size w8.heap.size w14 (.slice gao N gcap) N (fun i => .int .u8 ((1 + i) % 256))) := sm
    replace HO : Hid (Below w.heap.size w w14) := HO.out.trans (wi.below.mono (by have := Y1.out; have := Z1.out; have := Z2.out; have := Z3.out; have := Z4.out; have := Y5.out; have := Z5.out; have := Z6.out; have := Y7.out; have := Z7.out; have := Z8.out; have := Y9.out; have := Z9.out; have := Z10.out; have := Z11.out; have := Z12.out; have := Z13.out; have := Z14.out; omega))
    clear wi zm sm
    clear cg0 cg1
    have cg0 := BG.out.cell (j := 0) (v := .int .i64 c) rfl
    have cg1 := BG.out.cell (j := 1) (v := .slice gao N gcap) rfl
    go_wp2_with fail
    refine (HL.out _ _ _ _ OG.out).mono ?_
    rintro e w15 ⟨rfl, b⟩
    replace BA : Hid (Blk w15 w.heap.size #[.int .i64 kd, .slice ao0 n cap0] 44) := BA.out.later b
    replace OS : Hid (OwS 5 w3.heap.size w4.heap.size w15 (.slice sao N scap) N (cF f)) := OS.out.later b
    replace BS : Hid (Blk w15 w4.heap.size #[.int .i64 c, .slice sao N scap] 47) := BS.out.later b
    replace BX : Hid (Blk w15 w6.heap.size #[.int .i64 kd, .slice (some ⟨gx, 0, none⟩) n n] 49) := BX.out.later b
    replace OG : Hid (OwS 5 w7.heap.size w8.heap.size w15 (.slice gao N gcap) N (fun i => .int .u8 ((1 + i) % 256))) := OG.out.later b
    replace BG : Hid (Blk w15 w8.heap.size #[.int .i64 c, .slice gao N gcap] 47) := BG.out.later b
    have Z15 : Hid (w14.heap.size ≤ w15.heap.size) := b.size
    replace HO : Hid (Below w.heap.size w w15) := HO.out.trans (b.mono HO.out.size)
    clear b
    clear cg0 cg1
    have ca0 := BA.out.cell (j := 0) (v := .int .i64 kd) rfl
    have ca1 := BA.out.cell (j := 1) (v := .slice ao0 n cap0) rfl
    go_wp2_with fail
    refine (toFrm_any (kd := kd) (RA.out.later HO.out) hm).mono ?_
    rintro e w16 ⟨g3, rfl, og3, b⟩
    have X3 : Hid (OwS 5 w15.heap.size w16.heap.size w16 (.slice (some ⟨g3, 0, none⟩) n n) n (cF F)) := og3
    clear og3
    replace BA : Hid (Blk w16 w.heap.size #[.int .i64 kd, .slice ao0 n cap0] 44) := BA.out.later b
    replace OS : Hid (OwS 5 w3.heap.size w4.heap.size w16 (.slice sao N scap) N (cF f)) := OS.out.later b
    replace BS : Hid (Blk w16 w4.heap.size #[.int .i64 c, .slice sao N scap] 47) := BS.out.later b
    replace BX : Hid (Blk w16 w6.heap.size #[.int .i64 kd, .slice (some ⟨gx, 0, none⟩) n n] 49) := BX.out.later b
    replace OG : Hid (OwS 5 w7.heap.size w8.heap.size w16 (.slice gao N gcap) N (fun i => .int .u8 ((1 + i) % 256))) := OG.out.later b
    replace BG : Hid (Blk w16 w8.heap.size #[.int .i64 c, .slice gao N gcap] 47) := BG.out.later b
    have Z16 : Hid (w15.heap.size ≤ w16.heap.size) := b.size
    replace HO : Hid (Below w.heap.size w w16) := HO.out.trans (b.mono HO.out.size)
    clear b
    clear ca0 ca1
    go_wp2_with fail
    refine (IC.out _ _ _ _ X3.out (HE0.out.later HO.out)).mono ?_
    rintro e w17 ⟨vh, rfl, oh, b⟩
    obtain ⟨hao, hcap, rfl⟩ := oh.form
    have OH : Hid (OwS 5 w16.heap.size w17.heap.size w17 (.slice hao N hcap) N (cF f)) := oh
    clear oh
    replace BA : Hid (Blk w17 w.heap.size #[.int .i64 kd, .slice ao0 n cap0] 44) := BA.out.later b
    replace OS : Hid (OwS 5 w3.heap.size w4.heap.size w17 (.slice sao N scap) N (cF f)) := OS.out.later b
    replace BS : Hid (Blk w17 w4.heap.size #[.int .i64 c, .slice sao N scap] 47) := BS.out.later b
    replace BX : Hid (Blk w17 w6.heap.size #[.int .i64 kd, .slice (some ⟨gx, 0, none⟩) n n] 49) := BX.out.later b
    replace OG : Hid (OwS 5 w7.heap.size w8.heap.size w17 (.slice gao N gcap) N (fun i => .int .u8 ((1 + i) % 256))) := OG.out.later b
    replace BG : Hid (Blk w17 w8.heap.size #[.int .i64 c, .slice gao N gcap] 47) := BG.out.later b
    replace X3 : Hid (OwS 5 w15.heap.size w16.heap.size w17 (.slice (some ⟨g3, 0, none⟩) n n) n (cF F)) := X3.out.later b
    have Z17 : Hid (w16.heap.size ≤ w17.heap.size) := b.size
    replace HO : Hid (Below w.heap.size w w17) := HO.out.trans (b.mono HO.out.size)
    clear b
    go_upto_region 25 with fail
    obtain ⟨w18, hwd⟩ : ∃ W, W = w17.alloc (.cells #[.int .i64 c, .slice hao N hcap] 47) := ⟨_, rfl⟩
    have BH : Hid (Blk w18 w17.heap.size #[.int .i64 c, .slice hao N hcap] 47) := by show Blk _ _ _ _; rw [hwd]; exact Blk.new rfl
    have b : Below w17.heap.size w17 w18 := by rw [hwd]; exact (Below.refl _ _).alloc (Nat.le_refl _) _
    have Y18 : Hid (w17.heap.size + 1 ≤ w18.heap.size) := by show _ ≤ _; rw [hwd]; simp
    rw [← hwd]
    clear hwd
    replace BA : Hid (Blk w18 w.heap.size #[.int .i64 kd, .slice ao0 n cap0] 44) := BA.out.later b
    replace OS : Hid (OwS 5 w3.heap.size w4.heap.size w18 (.slice sao N scap) N (cF f)) := OS.out.later b
    replace BS : Hid (Blk w18 w4.heap.size #[.int .i64 c, .slice sao N scap] 47) := BS.out.later b
    replace BX : Hid (Blk w18 w6.heap.size #[.int .i64 kd, .slice (some ⟨gx, 0, none⟩) n n] 49) := BX.out.later b
    replace OG : Hid (OwS 5 w7.heap.size w8.heap.size w18 (.slice gao N gcap) N (fun i => .int .u8 ((1 + i) % 256))) := OG.out.later b
    replace BG : Hid (Blk w18 w8.heap.size #[.int .i64 c, .slice gao N gcap] 47) := BG.out.later b
    replace X3 : Hid (OwS 5 w15.heap.size w16.heap.size w18 (.slice (some ⟨g3, 0, none⟩) n n) n (cF F)) := X3.out.later b
    replace OH : Hid (OwS 5 w16.heap.size w17.heap.size w18 (.slice hao N hcap) N (cF f)) := OH.out.later b
    have Z18 : Hid (w17.heap.size ≤ w18.heap.size) := b.size
    replace HO : Hid (Below w.heap.size w w18) := HO.out.trans (b.mono HO.out.size)
    clear b
    clear X3
    have cs0 := BS.out.cell (j := 0) (v := .int .i64 c) rfl
    have cs1 := BS.out.cell (j := 1) (v := .slice sao N scap) rfl
    have ch0 := BH.out.cell (j := 0) (v := .int .i64 c) rfl
    have ch1 := BH.out.cell (j := 1) (v := .slice hao N hcap) rfl
    go_wp2_with fail
    refine (eqFb_same OH.out.rd OS.out.rd hN2).mono ?_
    rintro e w19 ⟨rfl, b⟩
    replace BA : Hid (Blk w19 w.heap.size #[.int .i64 kd, .slice ao0 n cap0] 44) := BA.out.later b
    replace OS : Hid (OwS 5 w3.heap.size w4.heap.size w19 (.slice sao N scap) N (cF f)) := OS.out.later b
    replace BS : Hid (Blk w19 w4.heap.size #[.int .i64 c, .slice sao N scap] 47) := BS.out.later b
    replace BX : Hid (Blk w19 w6.heap.size #[.int .i64 kd, .slice (some ⟨gx, 0, none⟩) n n] 49) := BX.out.later b
    replace OG : Hid (OwS 5 w7.heap.size w8.heap.size w19 (.slice gao N gcap) N (fun i => .int .u8 ((1 + i) % 256))) := OG.out.later b
    replace BG : Hid (Blk w19 w8.heap.size #[.int .i64 c, .slice gao N gcap] 47) := BG.out.later b
    replace OH : Hid (OwS 5 w16.heap.size w17.heap.size w19 (.slice hao N hcap) N (cF f)) := OH.out.later b
    replace BH : Hid (Blk w19 w17.heap.size #[.int .i64 c, .slice hao N hcap] 47) := BH.out.later b
    have Z19 : Hid (w18.heap.size ≤ w19.heap.size) := b.size
    replace HO : Hid (Below w.heap.size w w19) := HO.out.trans (b.mono HO.out.size)
    clear b
    clear cs0 cs1 ch0 ch1
    have cg0 := BG.out.cell (j := 0) (v := .int .i64 c) rfl
    have cg1 := BG.out.cell (j := 1) (v := .slice gao N gcap) rfl
    go_wp2_with fail
    refine (HL.out _ _ _ _ OG.out).mono ?_
    rintro e w20 ⟨rfl, b⟩
    replace BA : Hid (Blk w20 w.heap.size #[.int .i64 kd, .slice ao0 n cap0] 44) := BA.out.later b
    replace OS : Hid (OwS 5 w3.heap.size w4.heap.size w20 (.slice sao N scap) N (cF f)) := OS.out.later b
    replace BS : Hid (Blk w20 w4.heap.size #[.int .i64 c, .slice sao N scap] 47) := BS.out.later b
    replace BX : Hid (Blk w20 w6.heap.size #[.int .i64 kd, .slice (some ⟨gx, 0, none⟩) n n] 49) := BX.out.later b
    replace OG : Hid (OwS 5 w7.heap.size w8.heap.size w20 (.slice gao N gcap) N (fun i => .int .u8 ((1 + i) % 256))) := OG.out.later b
    replace BG : Hid (Blk w20 w8.heap.size #[.int .i64 c, .slice gao N gcap] 47) := BG.out.later b
    replace OH : Hid (OwS 5 w16.heap.size w17.heap.size w20 (.slice hao N hcap) N (cF f)) := OH.out.later b
    replace BH : Hid (Blk w20 w17.heap.size #[.int .i64 c, .slice hao N hcap] 47) := BH.out.later b
    have Z20 : Hid (w19.heap.size ≤ w20.heap.size) := b.size
    replace HO : Hid (Below w.heap.size w w20) := HO.out.trans (b.mono HO.out.size)
    clear b
    clear cg0 cg1
    go_wp2
    go_ret
    exact ⟨rfl, HO.out⟩

set_option maxRecDepth 100000 in
theorem lifted (os : Os) (started : os.Started) (H : Type) (enc : TypeId × Value → H) :
    ReturnsInHanded {} Tryd.checked os 5 .any (fun w args => (Rows.fnExactWriteFrameSpec.pre enc Tryd.prog Tryd.f5 [] false w args ∧ laidMetH Tryd.prog laidE w) ∧ sizedMet enc Tryd.prog Tryd.f5 (OpenSpec.ofChange Rows.fnExactWriteFrameSpec) false w args)
      (Rows.fnExactWriteFrameSpec.post enc Tryd.prog Tryd.f5 false true false false) := by
  refine returnsInHanded_of_change_and (C := Tryd.checked) (X := fun w _ => laidMetH Tryd.prog laidE w) (fun _ _ _ hh h => h.of_heap hh) own started (by kernel_rfl) Tryd.func5
    (ChangeSpec.witness_shaped (enc := enc) (C := Tryd.checked) (os := os) (X := fun w _ => laidMetH Tryd.prog laidE w) false (World.doorLaid Tryd.prog 400 os) #[.agg #[.int .i64 0, .slice none 0 0]] 8 rfl (World.shaped_of_RefB (by kernel_rfl) (by kernel_rfl)) (by kernel_rfl) (by kernel_rfl) (by kernel_rfl) (door_met os _)) ?_
  intro W base args ds gs before hval0 hW _ _ hL _
  have hval : ∀ (j : Nat) t v, Tryd.f5.params[j]? = some t → args[j]? = some v → Value.okWide Tryd.prog W .any base t v := hval0
  have hW' := hW
  obtain ⟨p, q, hA0, hV, rfl, hfz, hnd⟩ := hW
  have hA : DataW.TrodAll enc Tryd.prog W 0 (fun _ => true) true Tryd.f5.params.toList args.toList ds p := hA0
  rw [Tryd.params5] at hA hval
  obtain ⟨v0, vs0, d0, ds0, p0, q0, hargs0, rfl, rfl, h0, r0⟩ := trodAll_cons hA
  obtain ⟨rfl, rfl, rfl⟩ := trodAll_nil r0
  obtain rfl : args = #[v0] := by cases args; simp_all
  obtain ⟨rfl, rfl⟩ := trodVars_none hV
  have k0 := h0
  have lt0 : ∀ x ∈ p0, x.block < W.heap.size := by obtain ⟨m, hm⟩ := k0; exact DataW.trod_lt m _ _ _ hm
  obtain ⟨kd, c0, n0, F0, rfl, R0, nb0, fb0⟩ := open_frame (hval 0 44 v0 rfl rfl) h0
  clear hA0 hval0
  refine (walk R0 nb0 fb0 (et_of hL)).mono fun e W' ⟨he, bel⟩ => ?_
  subst he
  exact ⟨_, rfl, _, _, _, [], _, [], hW', trodAll_mk1 (shut_bool Tryd.underlying4 _), (trodAll_cons_mk (Below.trod laidOut (by kernel_rfl) (of_decide_eq_true (by kernel_rfl)) k0 bel lt0) trodAll_mk0), rfl, bel.frame _, fun h => by cases h⟩

theorem said : Rows.FnExactWriteFrameSaid :=
  OpenClaim.holds_of_wide 5 Tryd.f5 rfl rfl rfl rfl rfl rfl rfl ⟨rfl, rfl, rfl, rfl, rfl⟩ rfl rfl rfl rfl rfl (by kernel_rfl) Tryd.func5 (by kernel_rfl)
    (of_decide_eq_true (by kernel_rfl)) (by unfold Func.isWrapper; first | (rw [if_pos (by decide +kernel)]; kernel_rfl) | (rw [if_neg (by decide +kernel)]; exact ⟨rfl, rfl⟩))
    (fun os started H enc _ => lifted os started H enc)
end Go.Proofs.YtdknclkecbdpgaaDoor.LawWriteFrame
namespace Go.Proofs.YtdknclkecbdpgaaDoor
open Go.ChangeShapes Go.WideShapes Go.ChangeAt Go.RowKit Go.Joins
theorem writeFrame_holds : Rows.FnExactWriteFrameCardSaid :=
  Claim7.holds_tied_plain_at .later [] [.handle] true (true, "2a3ea9277edea9f13354192899e1050bff61de88375e0959a28fc33a2f330f7e") true
    LawWriteFrame.said (fun _ h => by cases h) (by kernel_rfl) (fun _ h => by cases h) fnExactWriteFrame_row_tie rfl ⟨rfl, rfl⟩ (by kernel_rfl) rfl
    (fun f fn hf hfn => by
      obtain rfl : f = 5 := Option.some.inj ((show Tryd.prog.funcNamed "loop.example/g00049/laws.FnExactWriteFrame" = some 5 by kernel_rfl).symm.trans hf) |>.symm
      obtain rfl : fn = Tryd.f5 := (Option.some.inj (Tryd.func5.symm.trans hfn)).symm
      exact ⟨by kernel_rfl, fun j t ht => by
        rw [Tryd.params5] at ht
        have hm : t ∈ [44] := by simpa using Array.mem_of_getElem? ht
        have hall : ([44].all fun u => !Tryd.prog.wantsStandIn u) = true := by kernel_rfl
        exact (show Tryd.prog.wantsStandIn t = false by simpa using List.all_eq_true.1 hall t hm)⟩)
    (by kernel_rfl)
#print axioms writeFrame_holds
end Go.Proofs.YtdknclkecbdpgaaDoor
