/- At every laser and number of steps the program's RunLaser answers as the specification, in memory of its own that a second call does not reach; nothing that was there is changed. -/
import Derived.Test.YtkkajcdjkfbcgaaLq
import Derived.Test.YtkkajcdjkfbcgaaOp
import Derived.Handy
import Derived.Deep.RegionHeld3
import Derived.Deep.DeepCutAuto
namespace Go.Proofs.Ytkkajcdjkfbcgaa.LawRunLaser
open Go.ChangeShapes Go.WideShapes Go.ChangeAt Go.RowKit Go.Joins
set_option linter.unusedVariables false

theorem laser_both (a : La) (n : Int) : ∃ (c : Int) (t : L4) (N : Nat) (F : Nat → Int), N ≤ 4096 ∧ (∀ W, FL 45 #[.agg #[.int .i64 a.g, .int .i64 a.l, .int .i64 a.s, .int .i64 a.p], .int .i64 n] W c t N F) ∧ (∀ W, FL 46 #[.agg #[.int .i64 a.g, .int .i64 a.l, .int .i64 a.s, .int .i64 a.p], .int .i64 n] W c t N F) := by
  by_cases h : lcode a = 0
  · cases hn : stepsB n
    · exact ⟨1, l0, 0, _, by omega, fun W => laser_s1 a n h hn W, fun W => laser_i1 a n h hn W⟩
    · have hb := stepsB_t hn
      obtain ⟨k, rfl⟩ := Int.eq_ofNat_of_zero_le hb.1
      exact ⟨0, lrun a k, k, _, by omega, fun W => laser_s0 a k h (by omega) W, fun W => laser_i0 a k h (by omega) W⟩
  · exact ⟨lcode a, l0, 0, _, by omega, fun W => laser_s3 a n h W, fun W => laser_i3 a n h W⟩
set_option maxRecDepth 100000 in
set_option maxHeartbeats 6400000 in
theorem walk (a : La) (n : Int) (w : World) :
    Calls Try.prog 11 #[.agg #[.int .i64 a.g, .int .i64 a.l, .int .i64 a.s, .int .i64 a.p], .int .i64 n] w fun e w' => e = .returned (.bool true) ∧ Below w.heap.size w w' := by
  obtain ⟨c, t, N, F, hN, SC0, IC0⟩ := laser_both a n
  have SC : Hid (∀ W, FL 45 #[.agg #[.int .i64 a.g, .int .i64 a.l, .int .i64 a.s, .int .i64 a.p], .int .i64 n] W c t N F) := SC0
  have IC : Hid (∀ W, FL 46 #[.agg #[.int .i64 a.g, .int .i64 a.l, .int .i64 a.s, .int .i64 a.p], .int .i64 n] W c t N F) := IC0
  clear SC0 IC0
  have hN2 : N ≤ 1000000000000 := by omega
  obtain ⟨M, hM⟩ : ∃ M : Int, M = 1 + N := ⟨_, rfl⟩
  have hM0 : ¬ M < 0 := by omega
  have hM1 : M ≤ 10000 := by omega
  have MK : Hid (∀ (lo hi : Nat) (W : World) (v : Value) (f : Nat → Int), lo ≤ W.heap.size → OwS 2 lo hi W v N (fun i => .int .i64 (f i)) → Calls Try.prog 48 #[Lv c t v, .int .i64 1] W fun e w' => e = .returned (.int .i64 M) ∧ OwS 2 lo hi w' v N (fun i => .int .i64 (1 + i)) ∧ Within lo hi W w' ∧ W.heap.size ≤ w'.heap.size) := fun lo hi W v f hl h => by rw [hM]; exact markLaser_own h hl 1 (by omega) (by omega)
  have HL : Hid (∀ (lo hi : Nat) (W : World) (v : Value), OwS 2 lo hi W v N (fun i => .int .i64 (1 + i)) → Calls Try.prog 49 #[Lv c t v, .int .i64 1] W fun e w' => e = .returned (.int .i64 M) ∧ Below W.heap.size W w') := fun lo hi W v h => by rw [hM]; exact heldLaser_own h (by omega) (by omega)
  clear hM
  have HO : Hid (Below w.heap.size w w) := Below.refl _ _
  go_enter Try.func11, Try.ntmps11
  go_upto_region 1 with fail
  obtain ⟨w1, hwd⟩ : ∃ W, W = w.alloc (.cells #[.int .i64 a.g, .int .i64 a.l, .int .i64 a.s, .int .i64 a.p] 73) := ⟨_, rfl⟩
  have BP : Hid (Blk w1 w.heap.size #[.int .i64 a.g, .int .i64 a.l, .int .i64 a.s, .int .i64 a.p] 73) := by show Blk _ _ _ _; rw [hwd]; exact Blk.new rfl
  have b : Below w.heap.size w w1 := by rw [hwd]; exact (Below.refl _ _).alloc (Nat.le_refl _) _
  have Y1 : Hid (w.heap.size + 1 ≤ w1.heap.size) := by show _ ≤ _; rw [hwd]; simp
  rw [← hwd]
  clear hwd
  have Z1 : Hid (w.heap.size ≤ w1.heap.size) := b.size
  replace HO : Hid (Below w.heap.size w w1) := HO.out.trans (b.mono HO.out.size)
  clear b
  have pc0 := BP.out.cell (j := 0) (v := .int .i64 a.g) rfl
  have pc1 := BP.out.cell (j := 1) (v := .int .i64 a.l) rfl
  have pc2 := BP.out.cell (j := 2) (v := .int .i64 a.s) rfl
  have pc3 := BP.out.cell (j := 3) (v := .int .i64 a.p) rfl
  go_wp2_with fail
  refine (toLaser_any a _).mono ?_
  rintro e w2 ⟨rfl, b⟩
  replace BP : Hid (Blk w2 w.heap.size #[.int .i64 a.g, .int .i64 a.l, .int .i64 a.s, .int .i64 a.p] 73) := BP.out.later b
  have Z2 : Hid (w1.heap.size ≤ w2.heap.size) := b.size
  replace HO : Hid (Below w.heap.size w w2) := HO.out.trans (b.mono HO.out.size)
  clear b
  clear pc0 pc1 pc2 pc3
  go_wp2_with fail
  refine (SC.out _).mono ?_
  rintro e w3 ⟨vs, rfl, os, b⟩
  obtain ⟨sao, scap, rfl⟩ := os.form
  have OS : Hid (OwS 2 w2.heap.size w3.heap.size w3 (.slice sao N scap) N (fun i => .int .i64 (F i))) := os
  clear os
  replace BP : Hid (Blk w3 w.heap.size #[.int .i64 a.g, .int .i64 a.l, .int .i64 a.s, .int .i64 a.p] 73) := BP.out.later b
  have Z3 : Hid (w2.heap.size ≤ w3.heap.size) := b.size
  replace HO : Hid (Below w.heap.size w w3) := HO.out.trans (b.mono HO.out.size)
  clear b
  go_upto_region 2 with fail
  obtain ⟨w4, hwd⟩ : ∃ W, W = w3.alloc (.cells #[.int .i64 c, .int .i64 t.u, .int .i64 t.i, .int .i64 t.o, .int .i64 t.s, .slice sao N scap] 79) := ⟨_, rfl⟩
  have BS : Hid (Blk w4 w3.heap.size #[.int .i64 c, .int .i64 t.u, .int .i64 t.i, .int .i64 t.o, .int .i64 t.s, .slice sao N scap] 79) := by show Blk _ _ _ _; rw [hwd]; exact Blk.new rfl
  have b : Below w3.heap.size w3 w4 := by rw [hwd]; exact (Below.refl _ _).alloc (Nat.le_refl _) _
  have Y4 : Hid (w3.heap.size + 1 ≤ w4.heap.size) := by show _ ≤ _; rw [hwd]; simp
  rw [← hwd]
  clear hwd
  replace BP : Hid (Blk w4 w.heap.size #[.int .i64 a.g, .int .i64 a.l, .int .i64 a.s, .int .i64 a.p] 73) := BP.out.later b
  replace OS : Hid (OwS 2 w2.heap.size w3.heap.size w4 (.slice sao N scap) N (fun i => .int .i64 (F i))) := OS.out.later b
  have Z4 : Hid (w3.heap.size ≤ w4.heap.size) := b.size
  replace HO : Hid (Below w.heap.size w w4) := HO.out.trans (b.mono HO.out.size)
  clear b
  have pc0 := BP.out.cell (j := 0) (v := .int .i64 a.g) rfl
  have pc1 := BP.out.cell (j := 1) (v := .int .i64 a.l) rfl
  have pc2 := BP.out.cell (j := 2) (v := .int .i64 a.s) rfl
  have pc3 := BP.out.cell (j := 3) (v := .int .i64 a.p) rfl
  go_wp2_with fail
  refine (toLaser_any a _).mono ?_
  rintro e w5 ⟨rfl, b⟩
  replace BP : Hid (Blk w5 w.heap.size #[.int .i64 a.g, .int .i64 a.l, .int .i64 a.s, .int .i64 a.p] 73) := BP.out.later b
  replace OS : Hid (OwS 2 w2.heap.size w3.heap.size w5 (.slice sao N scap) N (fun i => .int .i64 (F i))) := OS.out.later b
  replace BS : Hid (Blk w5 w3.heap.size #[.int .i64 c, .int .i64 t.u, .int .i64 t.i, .int .i64 t.o, .int .i64 t.s, .slice sao N scap] 79) := BS.out.later b
  have Z5 : Hid (w4.heap.size ≤ w5.heap.size) := b.size
  replace HO : Hid (Below w.heap.size w w5) := HO.out.trans (b.mono HO.out.size)
  clear b
  clear pc0 pc1 pc2 pc3
  go_wp2_with fail
  refine (IC.out _).mono ?_
  rintro e w6 ⟨vg, rfl, og, b⟩
  obtain ⟨gao, gcap, rfl⟩ := og.form
  have OG : Hid (OwS 2 w5.heap.size w6.heap.size w6 (.slice gao N gcap) N (fun i => .int .i64 (F i))) := og
  clear og
  replace BP : Hid (Blk w6 w.heap.size #[.int .i64 a.g, .int .i64 a.l, .int .i64 a.s, .int .i64 a.p] 73) := BP.out.later b
  replace OS : Hid (OwS 2 w2.heap.size w3.heap.size w6 (.slice sao N scap) N (fun i => .int .i64 (F i))) := OS.out.later b
  replace BS : Hid (Blk w6 w3.heap.size #[.int .i64 c, .int .i64 t.u, .int .i64 t.i, .int .i64 t.o, .int .i64 t.s, .slice sao N scap] 79) := BS.out.later b
  have Z6 : Hid (w5.heap.size ≤ w6.heap.size) := b.size
  replace HO : Hid (Below w.heap.size w w6) := HO.out.trans (b.mono HO.out.size)
  clear b
  go_upto_region 3 with fail
  obtain ⟨w7, hwd⟩ : ∃ W, W = w6.alloc (.cells #[.int .i64 c, .int .i64 t.u, .int .i64 t.i, .int .i64 t.o, .int .i64 t.s, .slice gao N gcap] 79) := ⟨_, rfl⟩
  have BG : Hid (Blk w7 w6.heap.size #[.int .i64 c, .int .i64 t.u, .int .i64 t.i, .int .i64 t.o, .int .i64 t.s, .slice gao N gcap] 79) := by show Blk _ _ _ _; rw [hwd]; exact Blk.new rfl
  have b : Below w6.heap.size w6 w7 := by rw [hwd]; exact (Below.refl _ _).alloc (Nat.le_refl _) _
  have Y7 : Hid (w6.heap.size + 1 ≤ w7.heap.size) := by show _ ≤ _; rw [hwd]; simp
  rw [← hwd]
  clear hwd
  replace BP : Hid (Blk w7 w.heap.size #[.int .i64 a.g, .int .i64 a.l, .int .i64 a.s, .int .i64 a.p] 73) := BP.out.later b
  replace OS : Hid (OwS 2 w2.heap.size w3.heap.size w7 (.slice sao N scap) N (fun i => .int .i64 (F i))) := OS.out.later b
  replace BS : Hid (Blk w7 w3.heap.size #[.int .i64 c, .int .i64 t.u, .int .i64 t.i, .int .i64 t.o, .int .i64 t.s, .slice sao N scap] 79) := BS.out.later b
  replace OG : Hid (OwS 2 w5.heap.size w6.heap.size w7 (.slice gao N gcap) N (fun i => .int .i64 (F i))) := OG.out.later b
  have Z7 : Hid (w6.heap.size ≤ w7.heap.size) := b.size
  replace HO : Hid (Below w.heap.size w w7) := HO.out.trans (b.mono HO.out.size)
  clear b
  have cs0 := BS.out.cell (j := 0) (v := .int .i64 c) rfl
  have cs1 := BS.out.cell (j := 1) (v := .int .i64 t.u) rfl
  have cs2 := BS.out.cell (j := 2) (v := .int .i64 t.i) rfl
  have cs3 := BS.out.cell (j := 3) (v := .int .i64 t.o) rfl
  have cs4 := BS.out.cell (j := 4) (v := .int .i64 t.s) rfl
  have cs5 := BS.out.cell (j := 5) (v := .slice sao N scap) rfl
  have cg0 := BG.out.cell (j := 0) (v := .int .i64 c) rfl
  have cg1 := BG.out.cell (j := 1) (v := .int .i64 t.u) rfl
  have cg2 := BG.out.cell (j := 2) (v := .int .i64 t.i) rfl
  have cg3 := BG.out.cell (j := 3) (v := .int .i64 t.o) rfl
  have cg4 := BG.out.cell (j := 4) (v := .int .i64 t.s) rfl
  have cg5 := BG.out.cell (j := 5) (v := .slice gao N gcap) rfl
  go_wp2_with fail
  refine (eqLaser_same OG.out.rdI OS.out.rdI hN2).mono ?_
  rintro e w8 ⟨rfl, b⟩
  replace BP : Hid (Blk w8 w.heap.size #[.int .i64 a.g, .int .i64 a.l, .int .i64 a.s, .int .i64 a.p] 73) := BP.out.later b
  replace OS : Hid (OwS 2 w2.heap.size w3.heap.size w8 (.slice sao N scap) N (fun i => .int .i64 (F i))) := OS.out.later b
  replace BS : Hid (Blk w8 w3.heap.size #[.int .i64 c, .int .i64 t.u, .int .i64 t.i, .int .i64 t.o, .int .i64 t.s, .slice sao N scap] 79) := BS.out.later b
  replace OG : Hid (OwS 2 w5.heap.size w6.heap.size w8 (.slice gao N gcap) N (fun i => .int .i64 (F i))) := OG.out.later b
  replace BG : Hid (Blk w8 w6.heap.size #[.int .i64 c, .int .i64 t.u, .int .i64 t.i, .int .i64 t.o, .int .i64 t.s, .slice gao N gcap] 79) := BG.out.later b
  have Z8 : Hid (w7.heap.size ≤ w8.heap.size) := b.size
  replace HO : Hid (Below w.heap.size w w8) := HO.out.trans (b.mono HO.out.size)
  clear b
  clear cs0 cs1 cs2 cs3 cs4 cs5 cg0 cg1 cg2 cg3 cg4 cg5
  have cg0 := BG.out.cell (j := 0) (v := .int .i64 c) rfl
  have cg1 := BG.out.cell (j := 1) (v := .int .i64 t.u) rfl
  have cg2 := BG.out.cell (j := 2) (v := .int .i64 t.i) rfl
  have cg3 := BG.out.cell (j := 3) (v := .int .i64 t.o) rfl
  have cg4 := BG.out.cell (j := 4) (v := .int .i64 t.s) rfl
  have cg5 := BG.out.cell (j := 5) (v := .slice gao N gcap) rfl
  go_wp2_with fail
  refine (MK.out _ _ _ _ _ (by have := Y1.out; have := Z1.out; have := Z2.out; have := Z3.out; have := Y4.out; have := Z4.out; have := Z5.out; have := Z6.out; have := Y7.out; have := Z7.out; have := Z8.out; omega) OG.out).mono ?_
  rintro e w9 ⟨rfl, sm, wi, zm⟩
  have Z9 : Hid (w8.heap.size ≤ w9.heap.size) := zm
  replace BP : Hid (Blk w9 w.heap.size #[.int .i64 a.g, .int .i64 a.l, .int .i64 a.s, .int .i64 a.p] 73) := BP.out.under wi (by have := Y1.out; have := Z1.out; have := Z2.out; have := Z3.out; have := Y4.out; have := Z4.out; have := Z5.out; have := Z6.out; have := Y7.out; have := Z7.out; have := Z8.out; have := Z9.out; omega)
  replace OS : Hid (OwS 2 w2.heap.size w3.heap.size w9 (.slice sao N scap) N (fun i => .int .i64 (F i))) := OS.out.under wi (by have := Y1.out; have := Z1.out; have := Z2.out; have := Z3.out; have := Y4.out; have := Z4.out; have := Z5.out; have := Z6.out; have := Y7.out; have := Z7.out; have := Z8.out; have := Z9.out; omega)
  replace BS : Hid (Blk w9 w3.heap.size #[.int .i64 c, .int .i64 t.u, .int .i64 t.i, .int .i64 t.o, .int .i64 t.s, .slice sao N scap] 79) := BS.out.under wi (by have := Y1.out; have := Z1.out; have := Z2.out; have := Z3.out; have := Y4.out; have := Z4.out; have := Z5.out; have := Z6.out; have := Y7.out; have := Z7.out; have := Z8.out; have := Z9.out; omega)
  replace BG : Hid (Blk w9 w6.heap.size #[.int .i64 c, .int .i64 t.u, .int .i64 t.i, .int .i64 t.o, .int .i64 t.s, .slice gao N gcap] 79) := BG.out.under wi (by have := Y1.out; have := Z1.out; have := Z2.out; have := Z3.out; have := Y4.out; have := Z4.out; have := Z5.out; have := Z6.out; have := Y7.out; have := Z7.out; have := Z8.out; have := Z9.out; omega)
  replace OG : Hid (OwS 2 w5.heap.size w6.heap.size w9 (.slice gao N gcap) N (fun i => .int .i64 (1 + i))) := sm
  replace HO : Hid (Below w.heap.size w w9) := HO.out.trans (wi.below.mono (by have := Y1.out; have := Z1.out; have := Z2.out; have := Z3.out; have := Y4.out; have := Z4.out; have := Z5.out; have := Z6.out; have := Y7.out; have := Z7.out; have := Z8.out; have := Z9.out; omega))
  clear wi zm sm
  clear cg0 cg1 cg2 cg3 cg4 cg5
  have cg0 := BG.out.cell (j := 0) (v := .int .i64 c) rfl
  have cg1 := BG.out.cell (j := 1) (v := .int .i64 t.u) rfl
  have cg2 := BG.out.cell (j := 2) (v := .int .i64 t.i) rfl
  have cg3 := BG.out.cell (j := 3) (v := .int .i64 t.o) rfl
  have cg4 := BG.out.cell (j := 4) (v := .int .i64 t.s) rfl
  have cg5 := BG.out.cell (j := 5) (v := .slice gao N gcap) rfl
  go_wp2_with fail
  refine (HL.out _ _ _ _ OG.out).mono ?_
  rintro e w10 ⟨rfl, b⟩
  replace BP : Hid (Blk w10 w.heap.size #[.int .i64 a.g, .int .i64 a.l, .int .i64 a.s, .int .i64 a.p] 73) := BP.out.later b
  replace OS : Hid (OwS 2 w2.heap.size w3.heap.size w10 (.slice sao N scap) N (fun i => .int .i64 (F i))) := OS.out.later b
  replace BS : Hid (Blk w10 w3.heap.size #[.int .i64 c, .int .i64 t.u, .int .i64 t.i, .int .i64 t.o, .int .i64 t.s, .slice sao N scap] 79) := BS.out.later b
  replace OG : Hid (OwS 2 w5.heap.size w6.heap.size w10 (.slice gao N gcap) N (fun i => .int .i64 (1 + i))) := OG.out.later b
  replace BG : Hid (Blk w10 w6.heap.size #[.int .i64 c, .int .i64 t.u, .int .i64 t.i, .int .i64 t.o, .int .i64 t.s, .slice gao N gcap] 79) := BG.out.later b
  have Z10 : Hid (w9.heap.size ≤ w10.heap.size) := b.size
  replace HO : Hid (Below w.heap.size w w10) := HO.out.trans (b.mono HO.out.size)
  clear b
  clear cg0 cg1 cg2 cg3 cg4 cg5
  have pc0 := BP.out.cell (j := 0) (v := .int .i64 a.g) rfl
  have pc1 := BP.out.cell (j := 1) (v := .int .i64 a.l) rfl
  have pc2 := BP.out.cell (j := 2) (v := .int .i64 a.s) rfl
  have pc3 := BP.out.cell (j := 3) (v := .int .i64 a.p) rfl
  go_wp2_with fail
  refine (toLaser_any a _).mono ?_
  rintro e w11 ⟨rfl, b⟩
  replace BP : Hid (Blk w11 w.heap.size #[.int .i64 a.g, .int .i64 a.l, .int .i64 a.s, .int .i64 a.p] 73) := BP.out.later b
  replace OS : Hid (OwS 2 w2.heap.size w3.heap.size w11 (.slice sao N scap) N (fun i => .int .i64 (F i))) := OS.out.later b
  replace BS : Hid (Blk w11 w3.heap.size #[.int .i64 c, .int .i64 t.u, .int .i64 t.i, .int .i64 t.o, .int .i64 t.s, .slice sao N scap] 79) := BS.out.later b
  replace OG : Hid (OwS 2 w5.heap.size w6.heap.size w11 (.slice gao N gcap) N (fun i => .int .i64 (1 + i))) := OG.out.later b
  replace BG : Hid (Blk w11 w6.heap.size #[.int .i64 c, .int .i64 t.u, .int .i64 t.i, .int .i64 t.o, .int .i64 t.s, .slice gao N gcap] 79) := BG.out.later b
  have Z11 : Hid (w10.heap.size ≤ w11.heap.size) := b.size
  replace HO : Hid (Below w.heap.size w w11) := HO.out.trans (b.mono HO.out.size)
  clear b
  clear pc0 pc1 pc2 pc3
  go_wp2_with fail
  refine (IC.out _).mono ?_
  rintro e w12 ⟨vh, rfl, oh, b⟩
  obtain ⟨hao, hcap, rfl⟩ := oh.form
  have OH : Hid (OwS 2 w11.heap.size w12.heap.size w12 (.slice hao N hcap) N (fun i => .int .i64 (F i))) := oh
  clear oh
  replace BP : Hid (Blk w12 w.heap.size #[.int .i64 a.g, .int .i64 a.l, .int .i64 a.s, .int .i64 a.p] 73) := BP.out.later b
  replace OS : Hid (OwS 2 w2.heap.size w3.heap.size w12 (.slice sao N scap) N (fun i => .int .i64 (F i))) := OS.out.later b
  replace BS : Hid (Blk w12 w3.heap.size #[.int .i64 c, .int .i64 t.u, .int .i64 t.i, .int .i64 t.o, .int .i64 t.s, .slice sao N scap] 79) := BS.out.later b
  replace OG : Hid (OwS 2 w5.heap.size w6.heap.size w12 (.slice gao N gcap) N (fun i => .int .i64 (1 + i))) := OG.out.later b
  replace BG : Hid (Blk w12 w6.heap.size #[.int .i64 c, .int .i64 t.u, .int .i64 t.i, .int .i64 t.o, .int .i64 t.s, .slice gao N gcap] 79) := BG.out.later b
  have Z12 : Hid (w11.heap.size ≤ w12.heap.size) := b.size
  replace HO : Hid (Below w.heap.size w w12) := HO.out.trans (b.mono HO.out.size)
  clear b
  go_upto_region 14 with fail
  obtain ⟨w13, hwd⟩ : ∃ W, W = w12.alloc (.cells #[.int .i64 c, .int .i64 t.u, .int .i64 t.i, .int .i64 t.o, .int .i64 t.s, .slice hao N hcap] 79) := ⟨_, rfl⟩
  have BH : Hid (Blk w13 w12.heap.size #[.int .i64 c, .int .i64 t.u, .int .i64 t.i, .int .i64 t.o, .int .i64 t.s, .slice hao N hcap] 79) := by show Blk _ _ _ _; rw [hwd]; exact Blk.new rfl
  have b : Below w12.heap.size w12 w13 := by rw [hwd]; exact (Below.refl _ _).alloc (Nat.le_refl _) _
  have Y13 : Hid (w12.heap.size + 1 ≤ w13.heap.size) := by show _ ≤ _; rw [hwd]; simp
  rw [← hwd]
  clear hwd
  replace BP : Hid (Blk w13 w.heap.size #[.int .i64 a.g, .int .i64 a.l, .int .i64 a.s, .int .i64 a.p] 73) := BP.out.later b
  replace OS : Hid (OwS 2 w2.heap.size w3.heap.size w13 (.slice sao N scap) N (fun i => .int .i64 (F i))) := OS.out.later b
  replace BS : Hid (Blk w13 w3.heap.size #[.int .i64 c, .int .i64 t.u, .int .i64 t.i, .int .i64 t.o, .int .i64 t.s, .slice sao N scap] 79) := BS.out.later b
  replace OG : Hid (OwS 2 w5.heap.size w6.heap.size w13 (.slice gao N gcap) N (fun i => .int .i64 (1 + i))) := OG.out.later b
  replace BG : Hid (Blk w13 w6.heap.size #[.int .i64 c, .int .i64 t.u, .int .i64 t.i, .int .i64 t.o, .int .i64 t.s, .slice gao N gcap] 79) := BG.out.later b
  replace OH : Hid (OwS 2 w11.heap.size w12.heap.size w13 (.slice hao N hcap) N (fun i => .int .i64 (F i))) := OH.out.later b
  have Z13 : Hid (w12.heap.size ≤ w13.heap.size) := b.size
  replace HO : Hid (Below w.heap.size w w13) := HO.out.trans (b.mono HO.out.size)
  clear b
  have cs0 := BS.out.cell (j := 0) (v := .int .i64 c) rfl
  have cs1 := BS.out.cell (j := 1) (v := .int .i64 t.u) rfl
  have cs2 := BS.out.cell (j := 2) (v := .int .i64 t.i) rfl
  have cs3 := BS.out.cell (j := 3) (v := .int .i64 t.o) rfl
  have cs4 := BS.out.cell (j := 4) (v := .int .i64 t.s) rfl
  have cs5 := BS.out.cell (j := 5) (v := .slice sao N scap) rfl
  have ch0 := BH.out.cell (j := 0) (v := .int .i64 c) rfl
  have ch1 := BH.out.cell (j := 1) (v := .int .i64 t.u) rfl
  have ch2 := BH.out.cell (j := 2) (v := .int .i64 t.i) rfl
  have ch3 := BH.out.cell (j := 3) (v := .int .i64 t.o) rfl
  have ch4 := BH.out.cell (j := 4) (v := .int .i64 t.s) rfl
  have ch5 := BH.out.cell (j := 5) (v := .slice hao N hcap) rfl
  go_wp2_with fail
  refine (eqLaser_same OH.out.rdI OS.out.rdI hN2).mono ?_
  rintro e w14 ⟨rfl, b⟩
  replace BP : Hid (Blk w14 w.heap.size #[.int .i64 a.g, .int .i64 a.l, .int .i64 a.s, .int .i64 a.p] 73) := BP.out.later b
  replace OS : Hid (OwS 2 w2.heap.size w3.heap.size w14 (.slice sao N scap) N (fun i => .int .i64 (F i))) := OS.out.later b
  replace BS : Hid (Blk w14 w3.heap.size #[.int .i64 c, .int .i64 t.u, .int .i64 t.i, .int .i64 t.o, .int .i64 t.s, .slice sao N scap] 79) := BS.out.later b
  replace OG : Hid (OwS 2 w5.heap.size w6.heap.size w14 (.slice gao N gcap) N (fun i => .int .i64 (1 + i))) := OG.out.later b
  replace BG : Hid (Blk w14 w6.heap.size #[.int .i64 c, .int .i64 t.u, .int .i64 t.i, .int .i64 t.o, .int .i64 t.s, .slice gao N gcap] 79) := BG.out.later b
  replace OH : Hid (OwS 2 w11.heap.size w12.heap.size w14 (.slice hao N hcap) N (fun i => .int .i64 (F i))) := OH.out.later b
  replace BH : Hid (Blk w14 w12.heap.size #[.int .i64 c, .int .i64 t.u, .int .i64 t.i, .int .i64 t.o, .int .i64 t.s, .slice hao N hcap] 79) := BH.out.later b
  have Z14 : Hid (w13.heap.size ≤ w14.heap.size) := b.size
  replace HO : Hid (Below w.heap.size w w14) := HO.out.trans (b.mono HO.out.size)
  clear b
  clear cs0 cs1 cs2 cs3 cs4 cs5 ch0 ch1 ch2 ch3 ch4 ch5
  have cg0 := BG.out.cell (j := 0) (v := .int .i64 c) rfl
  have cg1 := BG.out.cell (j := 1) (v := .int .i64 t.u) rfl
  have cg2 := BG.out.cell (j := 2) (v := .int .i64 t.i) rfl
  have cg3 := BG.out.cell (j := 3) (v := .int .i64 t.o) rfl
  have cg4 := BG.out.cell (j := 4) (v := .int .i64 t.s) rfl
  have cg5 := BG.out.cell (j := 5) (v := .slice gao N gcap) rfl
  go_wp2_with fail
  refine (HL.out _ _ _ _ OG.out).mono ?_
  rintro e w15 ⟨rfl, b⟩
  replace BP : Hid (Blk w15 w.heap.size #[.int .i64 a.g, .int .i64 a.l, .int .i64 a.s, .int .i64 a.p] 73) := BP.out.later b
  replace OS : Hid (OwS 2 w2.heap.size w3.heap.size w15 (.slice sao N scap) N (fun i => .int .i64 (F i))) := OS.out.later b
  replace BS : Hid (Blk w15 w3.heap.size #[.int .i64 c, .int .i64 t.u, .int .i64 t.i, .int .i64 t.o, .int .i64 t.s, .slice sao N scap] 79) := BS.out.later b
  replace OG : Hid (OwS 2 w5.heap.size w6.heap.size w15 (.slice gao N gcap) N (fun i => .int .i64 (1 + i))) := OG.out.later b
  replace BG : Hid (Blk w15 w6.heap.size #[.int .i64 c, .int .i64 t.u, .int .i64 t.i, .int .i64 t.o, .int .i64 t.s, .slice gao N gcap] 79) := BG.out.later b
  replace OH : Hid (OwS 2 w11.heap.size w12.heap.size w15 (.slice hao N hcap) N (fun i => .int .i64 (F i))) := OH.out.later b
  replace BH : Hid (Blk w15 w12.heap.size #[.int .i64 c, .int .i64 t.u, .int .i64 t.i, .int .i64 t.o, .int .i64 t.s, .slice hao N hcap] 79) := BH.out.later b
  have Z15 : Hid (w14.heap.size ≤ w15.heap.size) := b.size
  replace HO : Hid (Below w.heap.size w w15) := HO.out.trans (b.mono HO.out.size)
  clear b
  clear cg0 cg1 cg2 cg3 cg4 cg5
  go_wp2
  go_ret
  exact ⟨rfl, HO.out⟩

set_option maxRecDepth 100000 in
theorem lifted (os : Os) (started : os.Started) (H : Type) (enc : TypeId × Value → H) :
    ReturnsInHanded {} Try.checked os 11 .any (Rows.fnExactRunLaserSpec.pre6 enc Try.prog Try.f11 Rows.fnExactRunLaserRow.domain false) (Rows.fnExactRunLaserSpec.post enc Try.prog Try.f11 false true false false) := by
  refine returnsInHanded_of_change (C := Try.checked) own started (by kernel_rfl) Try.func11
    (ChangeSpec.witness6 (enc := enc) (C := Try.checked) false ⟨#[], #[.agg #[.int .i64 0, .int .i64 0, .int .i64 0, .int .i64 0], .int .i64 0], []⟩ 8 (by kernel_rfl) (by kernel_rfl) (by kernel_rfl) (by kernel_rfl)) ?_
  intro W base args ds gs before hval0 hW hcnd _
  have hval : ∀ (j : Nat) t v, Try.f11.params[j]? = some t → args[j]? = some v → Value.okWide Try.prog W .any base t v := hval0
  have hW' := hW
  obtain ⟨p, q, hA0, hV, rfl, hfz, hnd⟩ := hW
  have hA : DataW.TrodAll enc Try.prog W 0 (fun _ => true) true Try.f11.params.toList args.toList ds p := hA0
  rw [Try.params11] at hA hval
  obtain ⟨v0, vs0, d0, ds0, p0, q0, hargs, rfl, rfl, h0, r0⟩ := trodAll_cons hA
  obtain ⟨v1, vs1, d1, ds1, p1, q1, rfl, rfl, rfl, h1, r1⟩ := trodAll_cons r0
  obtain ⟨rfl, rfl, rfl⟩ := trodAll_nil r1
  obtain rfl : args = #[v0, v1] := by cases args; simp_all
  obtain ⟨rfl, rfl⟩ := trodVars_none hV
  have k0 := h0
  have lt0 : ∀ x ∈ p0, x.block < W.heap.size := by obtain ⟨m, hm⟩ := k0; exact DataW.trod_lt m _ _ _ hm
  obtain ⟨n0, rfl⟩ := open_laser (hval 0 73 v0 rfl rfl) h0
  have k1 := h1
  have lt1 : ∀ x ∈ p1, x.block < W.heap.size := by obtain ⟨m, hm⟩ := k1; exact DataW.trod_lt m _ _ _ hm
  obtain ⟨n1, rfl, _, _, w1⟩ := open_int Try.underlying2 (hval 1 2 v1 rfl rfl) h1
  clear hA0 hval0
  refine (walk n0 n1 W).mono fun e W' ⟨he, bel⟩ => ?_
  subst he
  exact ⟨_, rfl, _, _, _, [], _, [], hW', trodAll_mk1 (shut_bool Try.underlying4 _), (trodAll_cons_mk (Below.trod laidOut (by kernel_rfl) (of_decide_eq_true (by kernel_rfl)) k0 bel lt0) (trodAll_cons_mk (Below.trod laidOut (by kernel_rfl) (of_decide_eq_true (by kernel_rfl)) k1 bel lt1) trodAll_mk0)), rfl, bel.frame _, fun h => by cases h⟩

theorem over : Rows.fnExactRunLaserRow.holds Try.pinned (OpenSpec.ofChange Rows.fnExactRunLaserSpec) :=
  OpenClaim.holds_of_wide 11 Try.f11 rfl rfl rfl rfl rfl rfl rfl ⟨rfl, rfl, rfl, rfl, rfl⟩ rfl rfl rfl rfl rfl (by kernel_rfl) Try.func11 (by kernel_rfl)
    (of_decide_eq_true (by kernel_rfl)) (by unfold Func.isWrapper; first | (rw [if_pos (by decide +kernel)]; kernel_rfl) | (rw [if_neg (by decide +kernel)]; exact ⟨rfl, rfl⟩))
    (fun os started H enc _ => lifted os started H enc)
end Go.Proofs.Ytkkajcdjkfbcgaa.LawRunLaser
namespace Go.Proofs.Ytkkajcdjkfbcgaa
theorem runLaser_holds : Rows.FnExactRunLaserSaid := LawRunLaser.over
#print axioms runLaser_holds
end Go.Proofs.Ytkkajcdjkfbcgaa
