/- At every list and number the program's ShareOut answers as the specification, code and shares, where the law's own bound on the size does not answer first; what it answers owns its memory, behind another call too; nothing that was there is changed. Conditions: the library's variable errors.errorType starts as its text lays it (the card ties it). -/
import Derived.Test.YtdknclkecbdpgaaDoorRows
import Derived.Test.YtdknclkecbdpgaaDoorCards
import Derived.Test.YtdknclkecbdpgaaDoorTie
import Derived.Test.YtdknclkecbdpgaaDoorSr
import Derived.Test.YtdknclkecbdpgaaDoorOp
import Derived.Handy
import Derived.WalkKit
import Derived.Deep.RegionHeld3
import Derived.Deep.DeepCutAuto
namespace Go.Proofs.YtdknclkecbdpgaaDoor.LawShareOut
open Go.ChangeShapes Go.WideShapes Go.ChangeAt Go.RowKit Go.Joins
set_option linter.unusedVariables false
set_option maxRecDepth 20000 in
set_option maxHeartbeats 6400000 in
theorem walk {w : World} {v0 : Value} {n : Nat} {F : Nat → Int} (h0 : RdG w v0 n (fun i => .int .i64 (F i))) (hn0 : n ≤ 9223372036854775807) (s : Int) (TB : Et w) :
    Calls Tryd.prog 14 #[v0, .int .i64 s] w fun e w' => e = .returned (.bool true) ∧ Below w.heap.size w w' := by
  obtain ⟨ao0, cap0, ev0⟩ := h0.form
  subst ev0
  have RA : Hid (RdG w (.slice ao0 n cap0) n (fun i => .int .i64 (F i))) := h0
  have HE0 : Hid (Et w) := TB
  by_cases hbig : (1048576 : Int) < n
  · clear h0 TB
    go_enter Tryd.func14, Tryd.ntmps14
    go_wp2
    go_ret
    exact ⟨rfl, Below.refl _ _⟩
  have hp0 : n ≤ 1048576 := by omega
  have hm : n ≤ 1000000000000 := by omega
  obtain ⟨c, N, G, hN, SC0, IC0⟩ := so_both n F s
  have SC : Hid (∀ (W : World) (lo hi b : Nat), OwS 2 lo hi W (.slice (some ⟨b, 0, none⟩) n n) n (fun i => .int .i64 (F i)) → Sa 18 #[.slice (some ⟨b, 0, none⟩) n n, .int .i64 s] W c N G) := fun W lo hi b h => SC0 W b 0 n h.cellsOfI
  have IC : Hid (∀ (W : World) (lo hi b : Nat), OwS 2 lo hi W (.slice (some ⟨b, 0, none⟩) n n) n (fun i => .int .i64 (F i)) → Et W → Sa 19 #[.slice (some ⟨b, 0, none⟩) n n, .int .i64 s] W c N G) := fun W lo hi b h hE => IC0 W b 0 n h.cellsOfI hE
  clear h0 TB SC0 IC0
  have hN2 : N ≤ 1000000 := by omega
  obtain ⟨M, hM⟩ : ∃ M : Int, M = 1 + n := ⟨_, rfl⟩
  obtain ⟨Q, hQ⟩ : ∃ M : Int, M = mS 1 N := ⟨_, rfl⟩
  have hM0 : ¬ M < 0 := by omega
  have hM1 : decide (M < 0) = false := by simp; omega
  have hQ0 : ¬ Q < 0 := by rw [hQ]; unfold mS; omega
  have hQ1 : decide (Q < 0) = false := by simpa using hQ0
  have MX : Hid (∀ (lo hi : Nat) (W : World) (v : Value), OwS 2 lo hi W v n (fun i => .int .i64 (F i)) → Calls Tryd.prog 62 #[v, .int .i64 1] W fun e w' => e = .returned (.int .i64 M) ∧ OwS 2 lo hi w' v n (fun i => .int .i64 (1 + i)) ∧ Within lo hi W w' ∧ w'.heap.size = W.heap.size) := fun lo hi W v h => by rw [hM]; exact markI_own h 1 (by omega) (by omega)
  have MK : Hid (∀ (lo hi : Nat) (W : World) (v : Value), lo ≤ W.heap.size → OwP lo hi W v N G → Calls Tryd.prog 68 #[.agg #[.int .i64 c, v], .int .i64 1] W fun e w' => e = .returned (.int .i64 Q) ∧ OwP lo hi w' v N (fun i => msh (mS 1 i)) ∧ Within lo hi W w' ∧ W.heap.size ≤ w'.heap.size) := fun lo hi W v hl h => by rw [hQ]; exact markSR_own h hl hN2
  have HL : Hid (∀ (lo hi : Nat) (W : World) (v : Value), OwP lo hi W v N (fun i => msh (mS 1 i)) → Calls Tryd.prog 69 #[.agg #[.int .i64 c, v], .int .i64 1] W fun e w' => e = .returned (.int .i64 Q) ∧ Below W.heap.size W w') := fun lo hi W v h => by rw [hQ]; exact heldSR_own h hN2
  clear hM hQ
  have HO : Hid (Below w.heap.size w w) := Below.refl _ _
  go_enter Tryd.func14, Tryd.ntmps14
  go_wp2_with fail
  refine (toI_any (RA.out.later HO.out) hm).mono ?_
  rintro e w1 ⟨rfl, sm, b, hz⟩
  have Y1 : Hid (w.heap.size + 1 ≤ w1.heap.size) := by show _ ≤ _; omega
  have X1 : Hid (OwS 2 w.heap.size (w.heap.size + 1) w1 (.slice (some ⟨w.heap.size, 0, none⟩) n n) n (fun i => .int .i64 (F i))) := Or.inr ⟨_, _, rfl, Nat.le_refl _, Nat.lt_succ_self _, sm⟩
  clear sm hz
  have Z1 : Hid (w.heap.size ≤ w1.heap.size) := b.size
  replace HO : Hid (Below w.heap.size w w1) := HO.out.trans (b.mono HO.out.size)
  clear b
  go_wp2_with fail
  refine (SC.out _ _ _ _ X1.out).mono ?_
  rintro e w2 ⟨vs, rfl, os, b⟩
  obtain ⟨sao, scap, rfl⟩ := os.form
  have OS : Hid (OwP w1.heap.size w2.heap.size w2 (.slice sao N scap) N G) := os
  clear os
  replace X1 : Hid (OwS 2 w.heap.size (w.heap.size + 1) w2 (.slice (some ⟨w.heap.size, 0, none⟩) n n) n (fun i => .int .i64 (F i))) := X1.out.later b
  have Z2 : Hid (w1.heap.size ≤ w2.heap.size) := b.size
  replace HO : Hid (Below w.heap.size w w2) := HO.out.trans (b.mono HO.out.size)
  clear b
  go_upto_region 4 with fail
  obtain ⟨w3, hwd⟩ : ∃ W, W = w2.alloc (.cells #[.int .i64 c, .slice sao N scap] 29) := ⟨_, rfl⟩
  have BS : Hid (Blk w3 w2.heap.size #[.int .i64 c, .slice sao N scap] 29) := by show Blk _ _ _ _; rw [hwd]; exact Blk.new rfl
  have b : Below w2.heap.size w2 w3 := by rw [hwd]; exact (Below.refl _ _).alloc (Nat.le_refl _) _
  have Y3 : Hid (w2.heap.size + 1 ≤ w3.heap.size) := by show _ ≤ _; rw [hwd]; simp
  rw [← hwd]
  clear hwd
  replace X1 : Hid (OwS 2 w.heap.size (w.heap.size + 1) w3 (.slice (some ⟨w.heap.size, 0, none⟩) n n) n (fun i => .int .i64 (F i))) := X1.out.later b
  replace OS : Hid (OwP w1.heap.size w2.heap.size w3 (.slice sao N scap) N G) := OS.out.later b
  have Z3 : Hid (w2.heap.size ≤ w3.heap.size) := b.size
  replace HO : Hid (Below w.heap.size w w3) := HO.out.trans (b.mono HO.out.size)
  clear b
  clear X1
  go_wp2_with fail
  refine (toI_any (RA.out.later HO.out) hm).mono ?_
  rintro e w4 ⟨rfl, sm, b, hz⟩
  have Y4 : Hid (w3.heap.size + 1 ≤ w4.heap.size) := by show _ ≤ _; omega
  have XS : Hid (OwS 2 w3.heap.size (w3.heap.size + 1) w4 (.slice (some ⟨w3.heap.size, 0, none⟩) n n) n (fun i => .int .i64 (F i))) := Or.inr ⟨_, _, rfl, Nat.le_refl _, Nat.lt_succ_self _, sm⟩
  clear sm hz
  replace OS : Hid (OwP w1.heap.size w2.heap.size w4 (.slice sao N scap) N G) := OS.out.later b
  replace BS : Hid (Blk w4 w2.heap.size #[.int .i64 c, .slice sao N scap] 29) := BS.out.later b
  have Z4 : Hid (w3.heap.size ≤ w4.heap.size) := b.size
  replace HO : Hid (Below w.heap.size w w4) := HO.out.trans (b.mono HO.out.size)
  clear b
  go_wp2_with fail
  refine (IC.out _ _ _ _ XS.out (HE0.out.later HO.out)).mono ?_
  rintro e w5 ⟨vg, rfl, og, b⟩
  obtain ⟨gao, gcap, rfl⟩ := og.form
  have OG : Hid (OwP w4.heap.size w5.heap.size w5 (.slice gao N gcap) N G) := og
  clear og
  replace OS : Hid (OwP w1.heap.size w2.heap.size w5 (.slice sao N scap) N G) := OS.out.later b
  replace BS : Hid (Blk w5 w2.heap.size #[.int .i64 c, .slice sao N scap] 29) := BS.out.later b
  replace XS : Hid (OwS 2 w3.heap.size (w3.heap.size + 1) w5 (.slice (some ⟨w3.heap.size, 0, none⟩) n n) n (fun i => .int .i64 (F i))) := XS.out.later b
  have Z5 : Hid (w4.heap.size ≤ w5.heap.size) := b.size
  replace HO : Hid (Below w.heap.size w w5) := HO.out.trans (b.mono HO.out.size)
  clear b
  go_upto_region 6 with fail
  obtain ⟨w6, hwd⟩ : ∃ W, W = w5.alloc (.cells #[.int .i64 c, .slice gao N gcap] 29) := ⟨_, rfl⟩
  have BG : Hid (Blk w6 w5.heap.size #[.int .i64 c, .slice gao N gcap] 29) := by show Blk _ _ _ _; rw [hwd]; exact Blk.new rfl
  have b : Below w5.heap.size w5 w6 := by rw [hwd]; exact (Below.refl _ _).alloc (Nat.le_refl _) _
  have Y6 : Hid (w5.heap.size + 1 ≤ w6.heap.size) := by show _ ≤ _; rw [hwd]; simp
  rw [← hwd]
  clear hwd
  replace OS : Hid (OwP w1.heap.size w2.heap.size w6 (.slice sao N scap) N G) := OS.out.later b
  replace BS : Hid (Blk w6 w2.heap.size #[.int .i64 c, .slice sao N scap] 29) := BS.out.later b
  replace XS : Hid (OwS 2 w3.heap.size (w3.heap.size + 1) w6 (.slice (some ⟨w3.heap.size, 0, none⟩) n n) n (fun i => .int .i64 (F i))) := XS.out.later b
  replace OG : Hid (OwP w4.heap.size w5.heap.size w6 (.slice gao N gcap) N G) := OG.out.later b
  have Z6 : Hid (w5.heap.size ≤ w6.heap.size) := b.size
  replace HO : Hid (Below w.heap.size w w6) := HO.out.trans (b.mono HO.out.size)
  clear b
  have cs0 := BS.out.cell (j := 0) (v := .int .i64 c) rfl
  have cs1 := BS.out.cell (j := 1) (v := .slice sao N scap) rfl
  have cg0 := BG.out.cell (j := 0) (v := .int .i64 c) rfl
  have cg1 := BG.out.cell (j := 1) (v := .slice gao N gcap) rfl
  go_wp2_with fail
  refine (eqSR_same OG.out OS.out hN2).mono ?_
  rintro e w7 ⟨rfl, b⟩
  replace OS : Hid (OwP w1.heap.size w2.heap.size w7 (.slice sao N scap) N G) := OS.out.later b
  replace BS : Hid (Blk w7 w2.heap.size #[.int .i64 c, .slice sao N scap] 29) := BS.out.later b
  replace XS : Hid (OwS 2 w3.heap.size (w3.heap.size + 1) w7 (.slice (some ⟨w3.heap.size, 0, none⟩) n n) n (fun i => .int .i64 (F i))) := XS.out.later b
  replace OG : Hid (OwP w4.heap.size w5.heap.size w7 (.slice gao N gcap) N G) := OG.out.later b
  replace BG : Hid (Blk w7 w5.heap.size #[.int .i64 c, .slice gao N gcap] 29) := BG.out.later b
  have Z7 : Hid (w6.heap.size ≤ w7.heap.size) := b.size
  replace HO : Hid (Below w.heap.size w w7) := HO.out.trans (b.mono HO.out.size)
  clear b
  clear cs0 cs1 cg0 cg1
  go_wp2_with fail
  refine (toI_any (RA.out.later HO.out) hm).mono ?_
  rintro e w8 ⟨rfl, sm, b, hz⟩
  have Y8 : Hid (w7.heap.size + 1 ≤ w8.heap.size) := by show _ ≤ _; omega
  have X2 : Hid (OwS 2 w7.heap.size (w7.heap.size + 1) w8 (.slice (some ⟨w7.heap.size, 0, none⟩) n n) n (fun i => .int .i64 (F i))) := Or.inr ⟨_, _, rfl, Nat.le_refl _, Nat.lt_succ_self _, sm⟩
  clear sm hz
  replace OS : Hid (OwP w1.heap.size w2.heap.size w8 (.slice sao N scap) N G) := OS.out.later b
  replace BS : Hid (Blk w8 w2.heap.size #[.int .i64 c, .slice sao N scap] 29) := BS.out.later b
  replace XS : Hid (OwS 2 w3.heap.size (w3.heap.size + 1) w8 (.slice (some ⟨w3.heap.size, 0, none⟩) n n) n (fun i => .int .i64 (F i))) := XS.out.later b
  replace OG : Hid (OwP w4.heap.size w5.heap.size w8 (.slice gao N gcap) N G) := OG.out.later b
  replace BG : Hid (Blk w8 w5.heap.size #[.int .i64 c, .slice gao N gcap] 29) := BG.out.later b
  have Z8 : Hid (w7.heap.size ≤ w8.heap.size) := b.size
  replace HO : Hid (Below w.heap.size w w8) := HO.out.trans (b.mono HO.out.size)
  clear b
  go_wp2_with fail
  refine (eqI_any XS.out.rd X2.out.rd hm).mono ?_
  rintro e w9 he
  obtain ⟨rfl, b⟩ := drew_below he
  clear he
  replace OS : Hid (OwP w1.heap.size w2.heap.size w9 (.slice sao N scap) N G) := OS.out.later b
  replace BS : Hid (Blk w9 w2.heap.size #[.int .i64 c, .slice sao N scap] 29) := BS.out.later b
  replace XS : Hid (OwS 2 w3.heap.size (w3.heap.size + 1) w9 (.slice (some ⟨w3.heap.size, 0, none⟩) n n) n (fun i => .int .i64 (F i))) := XS.out.later b
  replace OG : Hid (OwP w4.heap.size w5.heap.size w9 (.slice gao N gcap) N G) := OG.out.later b
  replace BG : Hid (Blk w9 w5.heap.size #[.int .i64 c, .slice gao N gcap] 29) := BG.out.later b
  replace X2 : Hid (OwS 2 w7.heap.size (w7.heap.size + 1) w9 (.slice (some ⟨w7.heap.size, 0, none⟩) n n) n (fun i => .int .i64 (F i))) := X2.out.later b
  have Z9 : Hid (w8.heap.size ≤ w9.heap.size) := b.size
  replace HO : Hid (Below w.heap.size w w9) := HO.out.trans (b.mono HO.out.size)
  clear b
  clear X2
  go_wp2_with fail
  refine (MX.out _ _ _ _ XS.out).mono ?_
  rintro e w10 ⟨rfl, sm, wi, zm⟩
  have Z10 : Hid (w9.heap.size ≤ w10.heap.size) := Nat.le_of_eq zm.symm
  replace OS : Hid (OwP w1.heap.size w2.heap.size w10 (.slice sao N scap) N G) := OS.out.under wi (by have := Z1.out; have := Y1.out; have := Z2.out; have := Y3.out; have := Z3.out; have := Z4.out; have := Y4.out; have := Z5.out; have := Y6.out; have := Z6.out; have := Z7.out; have := Z8.out; have := Y8.out; have := Z9.out; have := Z10.out; omega)
  replace BS : Hid (Blk w10 w2.heap.size #[.int .i64 c, .slice sao N scap] 29) := BS.out.under wi (by have := Z1.out; have := Y1.out; have := Z2.out; have := Y3.out; have := Z3.out; have := Z4.out; have := Y4.out; have := Z5.out; have := Y6.out; have := Z6.out; have := Z7.out; have := Z8.out; have := Y8.out; have := Z9.out; have := Z10.out; omega)
  replace OG : Hid (OwP w4.heap.size w5.heap.size w10 (.slice gao N gcap) N G) := OG.out.under wi (by have := Z1.out; have := Y1.out; have := Z2.out; have := Y3.out; have := Z3.out; have := Z4.out; have := Y4.out; have := Z5.out; have := Y6.out; have := Z6.out; have := Z7.out; have := Z8.out; have := Y8.out; have := Z9.out; have := Z10.out; omega)
  replace BG : Hid (Blk w10 w5.heap.size #[.int .i64 c, .slice gao N gcap] 29) := BG.out.under wi (by have := Z1.out; have := Y1.out; have := Z2.out; have := Y3.out; have := Z3.out; have := Z4.out; have := Y4.out; have := Z5.out; have := Y6.out; have := Z6.out; have := Z7.out; have := Z8.out; have := Y8.out; have := Z9.out; have := Z10.out; omega)
  replace XS : Hid (OwS 2 w3.heap.size (w3.heap.size + 1) w10 (.slice (some ⟨w3.heap.size, 0, none⟩) n n) n (fun i => .int .i64 (1 + i))) := sm
  replace HO : Hid (Below w.heap.size w w10) := HO.out.trans (wi.below.mono (by have := Z1.out; have := Y1.out; have := Z2.out; have := Y3.out; have := Z3.out; have := Z4.out; have := Y4.out; have := Z5.out; have := Y6.out; have := Z6.out; have := Z7.out; have := Z8.out; have := Y8.out; have := Z9.out; have := Z10.out; omega))
  clear wi zm sm
  clear XS
  have cs0 := BS.out.cell (j := 0) (v := .int .i64 c) rfl
  have cs1 := BS.out.cell (j := 1) (v := .slice sao N scap) rfl
  have cg0 := BG.out.cell (j := 0) (v := .int .i64 c) rfl
  have cg1 := BG.out.cell (j := 1) (v := .slice gao N gcap) rfl
  go_wp2_with fail
  refine (eqSR_same OG.out OS.out hN2).mono ?_
  rintro e w11 ⟨rfl, b⟩
  replace OS : Hid (OwP w1.heap.size w2.heap.size w11 (.slice sao N scap) N G) := OS.out.later b
  replace BS : Hid (Blk w11 w2.heap.size #[.int .i64 c, .slice sao N scap] 29) := BS.out.later b
  replace OG : Hid (OwP w4.heap.size w5.heap.size w11 (.slice gao N gcap) N G) := OG.out.later b
  replace BG : Hid (Blk w11 w5.heap.size #[.int .i64 c, .slice gao N gcap] 29) := BG.out.later b
  have Z11 : Hid (w10.heap.size ≤ w11.heap.size) := b.size
  replace HO : Hid (Below w.heap.size w w11) := HO.out.trans (b.mono HO.out.size)
  clear b
  clear cs0 cs1 cg0 cg1
  have cg0 := BG.out.cell (j := 0) (v := .int .i64 c) rfl
  have cg1 := BG.out.cell (j := 1) (v := .slice gao N gcap) rfl
  go_wp2_with fail
  refine (MK.out _ _ _ _ (by have := Z1.out; have := Y1.out; have := Z2.out; have := Y3.out; have := Z3.out; have := Z4.out; have := Y4.out; have := Z5.out; have := Y6.out; have := Z6.out; have := Z7.out; have := Z8.out; have := Y8.out; have := Z9.out; have := Z10.out; have := Z11.out; omega) OG.out).mono ?_
  rintro e w12 ⟨rfl, sm, wi, zm⟩
  have Z12 : Hid (w11.heap.size ≤ w12.heap.size) := zm
  replace OS : Hid (OwP w1.heap.size w2.heap.size w12 (.slice sao N scap) N G) := OS.out.under wi (by have := Z1.out; have := Y1.out; have := Z2.out; have := Y3.out; have := Z3.out; have := Z4.out; have := Y4.out; have := Z5.out; have := Y6.out; have := Z6.out; have := Z7.out; have := Z8.out; have := Y8.out; have := Z9.out; have := Z10.out; have := Z11.out; have := Z12.out; omega)
  replace BS : Hid (Blk w12 w2.heap.size #[.int .i64 c, .slice sao N scap] 29) := BS.out.under wi (by have := Z1.out; have := Y1.out; have := Z2.out; have := Y3.out; have := Z3.out; have := Z4.out; have := Y4.out; have := Z5.out; have := Y6.out; have := Z6.out; have := Z7.out; have := Z8.out; have := Y8.out; have := Z9.out; have := Z10.out; have := Z11.out; have := Z12.out; omega)
  replace BG : Hid (Blk w12 w5.heap.size #[.int .i64 c, .slice gao N gcap] 29) := BG.out.under wi (by have := Z1.out; have := Y1.out; have := Z2.out; have := Y3.out; have := Z3.out; have := Z4.out; have := Y4.out; have := Z5.out; have := Y6.out; have := Z6.out; have := Z7.out; have := Z8.out; have := Y8.out; have := Z9.out; have := Z10.out; have := Z11.out; have := Z12.out; omega)
  replace OG : Hid (OwP w4.heap.size w5.heap.size w12 (.slice gao N gcap) N (fun i => msh (mS 1 i))) := sm
  replace HO : Hid (Below w.heap.size w w12) := HO.out.trans (wi.below.mono (by have := Z1.out; have := Y1.out; have := Z2.out; have := Y3.out; have := Z3.out; have := Z4.out; have := Y4.out; have := Z5.out; have := Y6.out; have := Z6.out; have := Z7.out; have := Z8.out; have := Y8.out; have := Z9.out; have := Z10.out; have := Z11.out; have := Z12.out; omega))
  clear wi zm sm
  clear cg0 cg1
  have cg0 := BG.out.cell (j := 0) (v := .int .i64 c) rfl
  have cg1 := BG.out.cell (j := 1) (v := .slice gao N gcap) rfl
  go_wp2_with fail
  refine (HL.out _ _ _ _ OG.out).mono ?_
  rintro e w13 ⟨rfl, b⟩
  replace OS : Hid (OwP w1.heap.size w2.heap.size w13 (.slice sao N scap) N G) := OS.out.later b
  replace BS : Hid (Blk w13 w2.heap.size #[.int .i64 c, .slice sao N scap] 29) := BS.out.later b
  replace OG : Hid (OwP w4.heap.size w5.heap.size w13 (.slice gao N gcap) N (fun i => msh (mS 1 i))) := OG.out.later b
  replace BG : Hid (Blk w13 w5.heap.size #[.int .i64 c, .slice gao N gcap] 29) := BG.out.later b
  have Z13 : Hid (w12.heap.size ≤ w13.heap.size) := b.size
  replace HO : Hid (Below w.heap.size w w13) := HO.out.trans (b.mono HO.out.size)
  clear b
  clear cg0 cg1
  go_wp2_with fail
  refine (toI_any (RA.out.later HO.out) hm).mono ?_
  rintro e w14 ⟨rfl, sm, b, hz⟩
  have Y14 : Hid (w13.heap.size + 1 ≤ w14.heap.size) := by show _ ≤ _; omega
  have X3 : Hid (OwS 2 w13.heap.size (w13.heap.size + 1) w14 (.slice (some ⟨w13.heap.size, 0, none⟩) n n) n (fun i => .int .i64 (F i))) := Or.inr ⟨_, _, rfl, Nat.le_refl _, Nat.lt_succ_self _, sm⟩
  clear sm hz
  replace OS : Hid (OwP w1.heap.size w2.heap.size w14 (.slice sao N scap) N G) := OS.out.later b
  replace BS : Hid (Blk w14 w2.heap.size #[.int .i64 c, .slice sao N scap] 29) := BS.out.later b
  replace OG : Hid (OwP w4.heap.size w5.heap.size w14 (.slice gao N gcap) N (fun i => msh (mS 1 i))) := OG.out.later b
  replace BG : Hid (Blk w14 w5.heap.size #[.int .i64 c, .slice gao N gcap] 29) := BG.out.later b
  have Z14 : Hid (w13.heap.size ≤ w14.heap.size) := b.size
  replace HO : Hid (Below w.heap.size w w14) := HO.out.trans (b.mono HO.out.size)
  clear b
  go_wp2_with fail
  refine (IC.out _ _ _ _ X3.out (HE0.out.later HO.out)).mono ?_
  rintro e w15 ⟨vh, rfl, oh, b⟩
  obtain ⟨hao, hcap, rfl⟩ := oh.form
  have OH : Hid (OwP w14.heap.size w15.heap.size w15 (.slice hao N hcap) N G) := oh
  clear oh
  replace OS : Hid (OwP w1.heap.size w2.heap.size w15 (.slice sao N scap) N G) := OS.out.later b
  replace BS : Hid (Blk w15 w2.heap.size #[.int .i64 c, .slice sao N scap] 29) := BS.out.later b
  replace OG : Hid (OwP w4.heap.size w5.heap.size w15 (.slice gao N gcap) N (fun i => msh (mS 1 i))) := OG.out.later b
  replace BG : Hid (Blk w15 w5.heap.size #[.int .i64 c, .slice gao N gcap] 29) := BG.out.later b
  replace X3 : Hid (OwS 2 w13.heap.size (w13.heap.size + 1) w15 (.slice (some ⟨w13.heap.size, 0, none⟩) n n) n (fun i => .int .i64 (F i))) := X3.out.later b
  have Z15 : Hid (w14.heap.size ≤ w15.heap.size) := b.size
  replace HO : Hid (Below w.heap.size w w15) := HO.out.trans (b.mono HO.out.size)
  clear b
  go_upto_region 23 with fail
  obtain ⟨w16, hwd⟩ : ∃ W, W = w15.alloc (.cells #[.int .i64 c, .slice hao N hcap] 29) := ⟨_, rfl⟩
  have BH : Hid (Blk w16 w15.heap.size #[.int .i64 c, .slice hao N hcap] 29) := by show Blk _ _ _ _; rw [hwd]; exact Blk.new rfl
  have b : Below w15.heap.size w15 w16 := by rw [hwd]; exact (Below.refl _ _).alloc (Nat.le_refl _) _
  have Y16 : Hid (w15.heap.size + 1 ≤ w16.heap.size) := by show _ ≤ _; rw [hwd]; simp
  rw [← hwd]
  clear hwd
  replace OS : Hid (OwP w1.heap.size w2.heap.size w16 (.slice sao N scap) N G) := OS.out.later b
  replace BS : Hid (Blk w16 w2.heap.size #[.int .i64 c, .slice sao N scap] 29) := BS.out.later b
  replace OG : Hid (OwP w4.heap.size w5.heap.size w16 (.slice gao N gcap) N (fun i => msh (mS 1 i))) := OG.out.later b
  replace BG : Hid (Blk w16 w5.heap.size #[.int .i64 c, .slice gao N gcap] 29) := BG.out.later b
  replace X3 : Hid (OwS 2 w13.heap.size (w13.heap.size + 1) w16 (.slice (some ⟨w13.heap.size, 0, none⟩) n n) n (fun i => .int .i64 (F i))) := X3.out.later b
  replace OH : Hid (OwP w14.heap.size w15.heap.size w16 (.slice hao N hcap) N G) := OH.out.later b
  have Z16 : Hid (w15.heap.size ≤ w16.heap.size) := b.size
  replace HO : Hid (Below w.heap.size w w16) := HO.out.trans (b.mono HO.out.size)
  clear b
  clear X3
  have cs0 := BS.out.cell (j := 0) (v := .int .i64 c) rfl
  have cs1 := BS.out.cell (j := 1) (v := .slice sao N scap) rfl
  have ch0 := BH.out.cell (j := 0) (v := .int .i64 c) rfl
  have ch1 := BH.out.cell (j := 1) (v := .slice hao N hcap) rfl
  go_wp2_with fail
  refine (eqSR_same OH.out OS.out hN2).mono ?_
  rintro e w17 ⟨rfl, b⟩
  replace OS : Hid (OwP w1.heap.size w2.heap.size w17 (.slice sao N scap) N G) := OS.out.later b
  replace BS : Hid (Blk w17 w2.heap.size #[.int .i64 c, .slice sao N scap] 29) := BS.out.later b
  replace OG : Hid (OwP w4.heap.size w5.heap.size w17 (.slice gao N gcap) N (fun i => msh (mS 1 i))) := OG.out.later b
  replace BG : Hid (Blk w17 w5.heap.size #[.int .i64 c, .slice gao N gcap] 29) := BG.out.later b
  replace OH : Hid (OwP w14.heap.size w15.heap.size w17 (.slice hao N hcap) N G) := OH.out.later b
  replace BH : Hid (Blk w17 w15.heap.size #[.int .i64 c, .slice hao N hcap] 29) := BH.out.later b
  have Z17 : Hid (w16.heap.size ≤ w17.heap.size) := b.size
  replace HO : Hid (Below w.heap.size w w17) := HO.out.trans (b.mono HO.out.size)
  clear b
  clear cs0 cs1 ch0 ch1
  have cg0 := BG.out.cell (j := 0) (v := .int .i64 c) rfl
  have cg1 := BG.out.cell (j := 1) (v := .slice gao N gcap) rfl
  go_wp2_with fail
  refine (HL.out _ _ _ _ OG.out).mono ?_
  rintro e w18 ⟨rfl, b⟩
  replace OS : Hid (OwP w1.heap.size w2.heap.size w18 (.slice sao N scap) N G) := OS.out.later b
  replace BS : Hid (Blk w18 w2.heap.size #[.int .i64 c, .slice sao N scap] 29) := BS.out.later b
  replace OG : Hid (OwP w4.heap.size w5.heap.size w18 (.slice gao N gcap) N (fun i => msh (mS 1 i))) := OG.out.later b
  replace BG : Hid (Blk w18 w5.heap.size #[.int .i64 c, .slice gao N gcap] 29) := BG.out.later b
  replace OH : Hid (OwP w14.heap.size w15.heap.size w18 (.slice hao N hcap) N G) := OH.out.later b
  replace BH : Hid (Blk w18 w15.heap.size #[.int .i64 c, .slice hao N hcap] 29) := BH.out.later b
  have Z18 : Hid (w17.heap.size ≤ w18.heap.size) := b.size
  replace HO : Hid (Below w.heap.size w w18) := HO.out.trans (b.mono HO.out.size)
  clear b
  clear cg0 cg1
  go_wp2
  go_ret
  exact ⟨rfl, HO.out⟩

set_option maxRecDepth 100000 in
theorem lifted (os : Os) (started : os.Started) (H : Type) (enc : TypeId × Value → H) :
    ReturnsInHanded {} Tryd.checked os 14 .any (fun w args => (Rows.fnExactShareOutSpec.pre enc Tryd.prog Tryd.f14 [] false w args ∧ laidMetH Tryd.prog laidE w) ∧ sizedMet enc Tryd.prog Tryd.f14 (OpenSpec.ofChange Rows.fnExactShareOutSpec) false w args)
      (Rows.fnExactShareOutSpec.post enc Tryd.prog Tryd.f14 false true false false) := by
  refine returnsInHanded_of_change_and (C := Tryd.checked) (X := fun w _ => laidMetH Tryd.prog laidE w) (fun _ _ _ hh h => h.of_heap hh) own started (by kernel_rfl) Tryd.func14
    (ChangeSpec.witness_shaped (enc := enc) (C := Tryd.checked) (os := os) (X := fun w _ => laidMetH Tryd.prog laidE w) false (World.doorLaid Tryd.prog 400 os) #[.slice none 0 0, .int .i64 0] 8 rfl (World.shaped_of_RefB (by kernel_rfl) (by kernel_rfl)) (by kernel_rfl) (by kernel_rfl) (by kernel_rfl) (door_met os _)) ?_
  intro W base args ds gs before hval0 hW _ _ hL _
  have hval : ∀ (j : Nat) t v, Tryd.f14.params[j]? = some t → args[j]? = some v → Value.okWide Tryd.prog W .any base t v := hval0
  have hW' := hW
  obtain ⟨p, q, hA0, hV, rfl, hfz, hnd⟩ := hW
  have hA : DataW.TrodAll enc Tryd.prog W 0 (fun _ => true) true Tryd.f14.params.toList args.toList ds p := hA0
  rw [Tryd.params14] at hA hval
  obtain ⟨v0, vs0, d0, ds0, p0, q0, hargs0, rfl, rfl, h0, r0⟩ := trodAll_cons hA
  obtain ⟨v1, vs1, d1, ds1, p1, q1, hargs1, rfl, rfl, h1, r1⟩ := trodAll_cons r0
  obtain ⟨rfl, rfl, rfl⟩ := trodAll_nil r1
  obtain rfl : args = #[v0, v1] := by cases args; simp_all
  obtain ⟨rfl, rfl⟩ := trodVars_none hV
  have k0 := h0
  have lt0 : ∀ x ∈ p0, x.block < W.heap.size := by obtain ⟨m, hm⟩ := k0; exact DataW.trod_lt m _ _ _ hm
  have k1 := h1
  have lt1 : ∀ x ∈ p1, x.block < W.heap.size := by obtain ⟨m, hm⟩ := k1; exact DataW.trod_lt m _ _ _ hm
  obtain ⟨n0, F0, R0, nb0⟩ := open_row (hval 0 24 v0 rfl rfl) h0
  obtain ⟨i1, rfl, _, _, w1⟩ := open_int Tryd.underlying2 (hval 1 2 v1 rfl rfl) h1
  clear hA0 hval0
  refine (walk R0 nb0 i1 (et_of hL)).mono fun e W' ⟨he, bel⟩ => ?_
  subst he
  exact ⟨_, rfl, _, _, _, [], _, [], hW', trodAll_mk1 (shut_bool Tryd.underlying4 _), (trodAll_cons_mk (Below.trod laidOut (by kernel_rfl) (of_decide_eq_true (by kernel_rfl)) k0 bel lt0) (trodAll_cons_mk (Below.trod laidOut (by kernel_rfl) (of_decide_eq_true (by kernel_rfl)) k1 bel lt1) trodAll_mk0)), rfl, bel.frame _, fun h => by cases h⟩

theorem said : Rows.FnExactShareOutSaid :=
  OpenClaim.holds_of_wide 14 Tryd.f14 rfl rfl rfl rfl rfl rfl rfl ⟨rfl, rfl, rfl, rfl, rfl⟩ rfl rfl rfl rfl rfl (by kernel_rfl) Tryd.func14 (by kernel_rfl)
    (of_decide_eq_true (by kernel_rfl)) (by unfold Func.isWrapper; first | (rw [if_pos (by decide +kernel)]; kernel_rfl) | (rw [if_neg (by decide +kernel)]; exact ⟨rfl, rfl⟩))
    (fun os started H enc _ => lifted os started H enc)
end Go.Proofs.YtdknclkecbdpgaaDoor.LawShareOut
namespace Go.Proofs.YtdknclkecbdpgaaDoor
open Go.ChangeShapes Go.WideShapes Go.ChangeAt Go.RowKit Go.Joins
theorem shareOut_holds : Rows.FnExactShareOutCardSaid :=
  Claim7.holds_tied_plain_at .later [] [.handle] true (true, "2a3ea9277edea9f13354192899e1050bff61de88375e0959a28fc33a2f330f7e") true
    LawShareOut.said (fun _ h => by cases h) (by kernel_rfl) (fun _ h => by cases h) fnExactShareOut_row_tie rfl ⟨rfl, rfl⟩ (by kernel_rfl) rfl
    (fun f fn hf hfn => by
      obtain rfl : f = 14 := Option.some.inj ((show Tryd.prog.funcNamed "loop.example/g00049/laws.FnExactShareOut" = some 14 by kernel_rfl).symm.trans hf) |>.symm
      obtain rfl : fn = Tryd.f14 := (Option.some.inj (Tryd.func14.symm.trans hfn)).symm
      exact ⟨by kernel_rfl, fun j t ht => by
        rw [Tryd.params14] at ht
        have hm : t ∈ [24, 2] := by simpa using Array.mem_of_getElem? ht
        have hall : ([24, 2].all fun u => !Tryd.prog.wantsStandIn u) = true := by kernel_rfl
        exact (show Tryd.prog.wantsStandIn t = false by simpa using List.all_eq_true.1 hall t hm)⟩)
    (by kernel_rfl)
#print axioms shareOut_holds
end Go.Proofs.YtdknclkecbdpgaaDoor
