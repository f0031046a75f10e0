/- At every list of bytes the program's ReadFrame answers as the specification, every field, where the law's own bound on the size does not answer first; what it answers owns its memory, behind another call too; nothing that was there is changed. Conditions: the library's variable errors.errorType starts as its text lays it (the card ties it). -/
import Derived.Test.YtdknclkecbdpgaaDoorRows
import Derived.Test.YtdknclkecbdpgaaDoorCards
import Derived.Test.YtdknclkecbdpgaaDoorTie
import Derived.Test.YtdknclkecbdpgaaDoorRj
import Derived.Test.YtdknclkecbdpgaaDoorOp
import Derived.Handy
import Derived.WalkKit
import Derived.Deep.RegionHeld3
import Derived.Deep.DeepCutAuto
namespace Go.Proofs.YtdknclkecbdpgaaDoor.LawReadFrame
open Go.ChangeShapes Go.WideShapes Go.ChangeAt Go.RowKit Go.Joins
set_option linter.unusedVariables false
theorem _root_.Go.Proofs.YtdknclkecbdpgaaDoor.OwS.cells {t : TypeId} {lo hi : Nat} {w : World} {g n cap : Nat} {F : Nat → Value} (h : OwS t lo hi w (.slice (some ⟨g, 0, none⟩) n cap) n F) : ∀ i, i < n → w.cell? ⟨g, 0 + i, none⟩ = some (F i) := by
  rcases h with ⟨e, _⟩ | ⟨g', cp, e, _, _, hs⟩
  · cases e
  · cases e
    exact fun i hi => hs.cell hi
theorem both (n : Nat) (F : Nat → Int) (hF : By n F) (hm : n ≤ 1000000000000) : ∃ (c u k : Int) (N : Nat) (f : Nat → Int), N ≤ 1000 ∧
    (∀ (W : World) (b off cap : Nat), n ≤ cap → (∀ i, i < n → W.cell? ⟨b, off + i, none⟩ = some (.int .u8 (F i))) → FR 38 #[.slice (some ⟨b, off, none⟩) n cap] W c u k N f) ∧
    (∀ (W : World) (b off cap : Nat), n ≤ cap → (∀ i, i < n → W.cell? ⟨b, off + i, none⟩ = some (.int .u8 (F i))) → Et W → FR 39 #[.slice (some ⟨b, off, none⟩) n cap] W c u k N f) := by
  obtain ⟨c, u, k, N, f, h1, _, h2, h3⟩ := rf_both n F hF hm
  exact ⟨c, u, k, N, f, h1, h2, h3⟩
set_option maxRecDepth 20000 in
set_option maxHeartbeats 6400000 in
theorem walk {w : World} {v0 : Value} {n : Nat} {F : Nat → Int} (h0 : RdG w v0 n (fun i => .int .u8 (F i))) (hn0 : n ≤ 9223372036854775807) (hF : By n F) (TB : Et w) :
    Calls Tryd.prog 6 #[v0] w fun e w' => e = .returned (.bool true) ∧ Below w.heap.size w w' := by
  obtain ⟨ao0, cap0, ev0⟩ := h0.form
  subst ev0
  have RA : Hid (RdG w (.slice ao0 n cap0) n (fun i => .int .u8 (F i))) := h0
  have HE0 : Hid (Et w) := TB
  by_cases hbig : (1048576 : Int) < n
  · clear h0 TB
    go_enter Tryd.func6, Tryd.ntmps6
    go_wp2
    go_ret
    exact ⟨rfl, Below.refl _ _⟩
  have hp0 : n ≤ 1048576 := by omega
  have hm : n ≤ 1000000000000 := by omega
  obtain ⟨c, u, k, N, f, hN, SC0, IC0⟩ := both n F hF hm
  have SC : Hid (∀ (W : World) (lo hi b : Nat), OwS 5 lo hi W (.slice (some ⟨b, 0, none⟩) n n) n (fun i => .int .u8 (F i)) → FR 38 #[.slice (some ⟨b, 0, none⟩) n n] W c u k N f) := fun W lo hi b h => SC0 W b 0 n (Nat.le_refl _) h.cells
  have IC : Hid (∀ (W : World) (lo hi b : Nat), OwS 5 lo hi W (.slice (some ⟨b, 0, none⟩) n n) n (fun i => .int .u8 (F i)) → Et W → FR 39 #[.slice (some ⟨b, 0, none⟩) n n] W c u k N f) := fun W lo hi b h hE => IC0 W b 0 n (Nat.le_refl _) h.cells hE
  clear h0 TB SC0 IC0 hF
  have hN2 : N ≤ 1000000000000 := by omega
  obtain ⟨M, hM⟩ : ∃ M : Int, M = 1 + n := ⟨_, rfl⟩
  obtain ⟨Q, hQ⟩ : ∃ M : Int, M = 1 + N := ⟨_, rfl⟩
  have hM0 : ¬ M < 0 := by omega
  have hM1 : decide (M < 0) = false := by simp; omega
  have hQ0 : ¬ Q < 0 := by omega
  have hQ1 : decide (Q < 0) = false := by simp; omega
  have MX : Hid (∀ (lo hi : Nat) (W : World) (v : Value), OwS 5 lo hi W v n (fun i => .int .u8 (F i)) → Calls Tryd.prog 41 #[v, .int .i64 1] W fun e w' => e = .returned (.int .i64 M) ∧ OwS 5 lo hi w' v n (fun i => .int .u8 ((1 + i) % 256)) ∧ Within lo hi W w' ∧ w'.heap.size = W.heap.size) := fun lo hi W v h => by rw [hM]; exact markB_own h 1 (by omega) (by omega)
  have MK : Hid (∀ (lo hi : Nat) (W : World) (v : Value), lo ≤ W.heap.size → OwS 5 lo hi W v N (fun i => .int .u8 (f i)) → Calls Tryd.prog 42 #[.agg #[.int .i64 c, .int .i64 u, .int .i64 k, v], .int .i64 1] W fun e w' => e = .returned (.int .i64 Q) ∧ OwS 5 lo hi w' v N (fun i => .int .u8 ((1 + i) % 256)) ∧ Within lo hi W w' ∧ W.heap.size ≤ w'.heap.size) := fun lo hi W v hl h => by rw [hQ]; exact markFr_own h hl 1 (by omega) (by omega)
  have HL : Hid (∀ (lo hi : Nat) (W : World) (v : Value), OwS 5 lo hi W v N (fun i => .int .u8 ((1 + i) % 256)) → Calls Tryd.prog 43 #[.agg #[.int .i64 c, .int .i64 u, .int .i64 k, v], .int .i64 1] W fun e w' => e = .returned (.int .i64 Q) ∧ Below W.heap.size W w') := fun lo hi W v h => by rw [hQ]; exact heldFr_own h (by omega) (by omega)
  clear hM hQ
  have HO : Hid (Below w.heap.size w w) := Below.refl _ _
  go_enter Tryd.func6, Tryd.ntmps6
  go_wp2_with fail
  refine (toB_any (RA.out.later HO.out) hm).mono ?_
  rintro e w1 ⟨rfl, sm, b, hz⟩
  have Y1 : Hid (w.heap.size + 1 ≤ w1.heap.size) := by show _ ≤ _; omega
  have X1 : Hid (OwS 5 w.heap.size (w.heap.size + 1) w1 (.slice (some ⟨w.heap.size, 0, none⟩) n n) n (fun i => .int .u8 (F i))) := Or.inr ⟨_, _, rfl, Nat.le_refl _, Nat.lt_succ_self _, sm⟩
  clear sm hz
  have Z1 : Hid (w.heap.size ≤ w1.heap.size) := b.size
  replace HO : Hid (Below w.heap.size w w1) := HO.out.trans (b.mono HO.out.size)
  clear b
  go_wp2_with fail
  refine (SC.out _ _ _ _ X1.out).mono ?_
  rintro e w2 ⟨vs, rfl, os, b⟩
  obtain ⟨sao, scap, rfl⟩ := os.form
  have OS : Hid (OwS 5 w1.heap.size w2.heap.size w2 (.slice sao N scap) N (fun i => .int .u8 (f i))) := os
  clear os
  replace X1 : Hid (OwS 5 w.heap.size (w.heap.size + 1) w2 (.slice (some ⟨w.heap.size, 0, none⟩) n n) n (fun i => .int .u8 (F i))) := X1.out.later b
  have Z2 : Hid (w1.heap.size ≤ w2.heap.size) := b.size
  replace HO : Hid (Below w.heap.size w w2) := HO.out.trans (b.mono HO.out.size)
  clear b
  go_upto_region 4 with fail
  obtain ⟨w3, hwd⟩ : ∃ W, W = w2.alloc (.cells #[.int .i64 c, .int .i64 u, .int .i64 k, .slice sao N scap] 57) := ⟨_, rfl⟩
  have BS : Hid (Blk w3 w2.heap.size #[.int .i64 c, .int .i64 u, .int .i64 k, .slice sao N scap] 57) := by show Blk _ _ _ _; rw [hwd]; exact Blk.new rfl
  have b : Below w2.heap.size w2 w3 := by rw [hwd]; exact (Below.refl _ _).alloc (Nat.le_refl _) _
  have Y3 : Hid (w2.heap.size + 1 ≤ w3.heap.size) := by show _ ≤ _; rw [hwd]; simp
  rw [← hwd]
  clear hwd
  replace X1 : Hid (OwS 5 w.heap.size (w.heap.size + 1) w3 (.slice (some ⟨w.heap.size, 0, none⟩) n n) n (fun i => .int .u8 (F i))) := X1.out.later b
  replace OS : Hid (OwS 5 w1.heap.size w2.heap.size w3 (.slice sao N scap) N (fun i => .int .u8 (f i))) := OS.out.later b
  have Z3 : Hid (w2.heap.size ≤ w3.heap.size) := b.size
  replace HO : Hid (Below w.heap.size w w3) := HO.out.trans (b.mono HO.out.size)
  clear b
  clear X1
  go_wp2_with fail
  refine (toB_any (RA.out.later HO.out) hm).mono ?_
  rintro e w4 ⟨rfl, sm, b, hz⟩
  have Y4 : Hid (w3.heap.size + 1 ≤ w4.heap.size) := by show _ ≤ _; omega
  have XS : Hid (OwS 5 w3.heap.size (w3.heap.size + 1) w4 (.slice (some ⟨w3.heap.size, 0, none⟩) n n) n (fun i => .int .u8 (F i))) := Or.inr ⟨_, _, rfl, Nat.le_refl _, Nat.lt_succ_self _, sm⟩
  clear sm hz
  replace OS : Hid (OwS 5 w1.heap.size w2.heap.size w4 (.slice sao N scap) N (fun i => .int .u8 (f i))) := OS.out.later b
  replace BS : Hid (Blk w4 w2.heap.size #[.int .i64 c, .int .i64 u, .int .i64 k, .slice sao N scap] 57) := BS.out.later b
  have Z4 : Hid (w3.heap.size ≤ w4.heap.size) := b.size
  replace HO : Hid (Below w.heap.size w w4) := HO.out.trans (b.mono HO.out.size)
  clear b
  go_wp2_with fail
  refine (IC.out _ _ _ _ XS.out (HE0.out.later HO.out)).mono ?_
  rintro e w5 ⟨vg, rfl, og, b⟩
  obtain ⟨gao, gcap, rfl⟩ := og.form
  have OG : Hid (OwS 5 w4.heap.size w5.heap.size w5 (.slice gao N gcap) N (fun i => .int .u8 (f i))) := og
  clear og
  replace OS : Hid (OwS 5 w1.heap.size w2.heap.size w5 (.slice sao N scap) N (fun i => .int .u8 (f i))) := OS.out.later b
  replace BS : Hid (Blk w5 w2.heap.size #[.int .i64 c, .int .i64 u, .int .i64 k, .slice sao N scap] 57) := BS.out.later b
  replace XS : Hid (OwS 5 w3.heap.size (w3.heap.size + 1) w5 (.slice (some ⟨w3.heap.size, 0, none⟩) n n) n (fun i => .int .u8 (F i))) := XS.out.later b
  have Z5 : Hid (w4.heap.size ≤ w5.heap.size) := b.size
  replace HO : Hid (Below w.heap.size w w5) := HO.out.trans (b.mono HO.out.size)
  clear b
  go_upto_region 6 with fail
  obtain ⟨w6, hwd⟩ : ∃ W, W = w5.alloc (.cells #[.int .i64 c, .int .i64 u, .int .i64 k, .slice gao N gcap] 57) := ⟨_, rfl⟩
  have BG : Hid (Blk w6 w5.heap.size #[.int .i64 c, .int .i64 u, .int .i64 k, .slice gao N gcap] 57) := by show Blk _ _ _ _; rw [hwd]; exact Blk.new rfl
  have b : Below w5.heap.size w5 w6 := by rw [hwd]; exact (Below.refl _ _).alloc (Nat.le_refl _) _
  have Y6 : Hid (w5.heap.size + 1 ≤ w6.heap.size) := by show _ ≤ _; rw [hwd]; simp
  rw [← hwd]
  clear hwd
  replace OS : Hid (OwS 5 w1.heap.size w2.heap.size w6 (.slice sao N scap) N (fun i => .int .u8 (f i))) := OS.out.later b
  replace BS : Hid (Blk w6 w2.heap.size #[.int .i64 c, .int .i64 u, .int .i64 k, .slice sao N scap] 57) := BS.out.later b
  replace XS : Hid (OwS 5 w3.heap.size (w3.heap.size + 1) w6 (.slice (some ⟨w3.heap.size, 0, none⟩) n n) n (fun i => .int .u8 (F i))) := XS.out.later b
  replace OG : Hid (OwS 5 w4.heap.size w5.heap.size w6 (.slice gao N gcap) N (fun i => .int .u8 (f i))) := OG.out.later b
  have Z6 : Hid (w5.heap.size ≤ w6.heap.size) := b.size
  replace HO : Hid (Below w.heap.size w w6) := HO.out.trans (b.mono HO.out.size)
  clear b
  have cs0 := BS.out.cell (j := 0) (v := .int .i64 c) rfl
  have cs1 := BS.out.cell (j := 1) (v := .int .i64 u) rfl
  have cs2 := BS.out.cell (j := 2) (v := .int .i64 k) rfl
  have cs3 := BS.out.cell (j := 3) (v := .slice sao N scap) rfl
  have cg0 := BG.out.cell (j := 0) (v := .int .i64 c) rfl
  have cg1 := BG.out.cell (j := 1) (v := .int .i64 u) rfl
  have cg2 := BG.out.cell (j := 2) (v := .int .i64 k) rfl
  have cg3 := BG.out.cell (j := 3) (v := .slice gao N gcap) rfl
  go_wp2_with fail
  refine (eqFr_same OG.out.rd OS.out.rd hN2).mono ?_
  rintro e w7 ⟨rfl, b⟩
  replace OS : Hid (OwS 5 w1.heap.size w2.heap.size w7 (.slice sao N scap) N (fun i => .int .u8 (f i))) := OS.out.later b
  replace BS : Hid (Blk w7 w2.heap.size #[.int .i64 c, .int .i64 u, .int .i64 k, .slice sao N scap] 57) := BS.out.later b
  replace XS : Hid (OwS 5 w3.heap.size (w3.heap.size + 1) w7 (.slice (some ⟨w3.heap.size, 0, none⟩) n n) n (fun i => .int .u8 (F i))) := XS.out.later b
  replace OG : Hid (OwS 5 w4.heap.size w5.heap.size w7 (.slice gao N gcap) N (fun i => .int .u8 (f i))) := OG.out.later b
  replace BG : Hid (Blk w7 w5.heap.size #[.int .i64 c, .int .i64 u, .int .i64 k, .slice gao N gcap] 57) := BG.out.later b
  have Z7 : Hid (w6.heap.size ≤ w7.heap.size) := b.size
  replace HO : Hid (Below w.heap.size w w7) := HO.out.trans (b.mono HO.out.size)
  clear b
  clear cs0 cs1 cs2 cs3 cg0 cg1 cg2 cg3
  go_wp2_with fail
  refine (toB_any (RA.out.later HO.out) hm).mono ?_
  rintro e w8 ⟨rfl, sm, b, hz⟩
  have Y8 : Hid (w7.heap.size + 1 ≤ w8.heap.size) := by show _ ≤ _; omega
  have X2 : Hid (OwS 5 w7.heap.size (w7.heap.size + 1) w8 (.slice (some ⟨w7.heap.size, 0, none⟩) n n) n (fun i => .int .u8 (F i))) := Or.inr ⟨_, _, rfl, Nat.le_refl _, Nat.lt_succ_self _, sm⟩
  clear sm hz
  replace OS : Hid (OwS 5 w1.heap.size w2.heap.size w8 (.slice sao N scap) N (fun i => .int .u8 (f i))) := OS.out.later b
  replace BS : Hid (Blk w8 w2.heap.size #[.int .i64 c, .int .i64 u, .int .i64 k, .slice sao N scap] 57) := BS.out.later b
  replace XS : Hid (OwS 5 w3.heap.size (w3.heap.size + 1) w8 (.slice (some ⟨w3.heap.size, 0, none⟩) n n) n (fun i => .int .u8 (F i))) := XS.out.later b
  replace OG : Hid (OwS 5 w4.heap.size w5.heap.size w8 (.slice gao N gcap) N (fun i => .int .u8 (f i))) := OG.out.later b
  replace BG : Hid (Blk w8 w5.heap.size #[.int .i64 c, .int .i64 u, .int .i64 k, .slice gao N gcap] 57) := BG.out.later b
  have Z8 : Hid (w7.heap.size ≤ w8.heap.size) := b.size
  replace HO : Hid (Below w.heap.size w w8) := HO.out.trans (b.mono HO.out.size)
  clear b
  go_wp2_with fail
  refine (eqB_any XS.out.rd X2.out.rd hm).mono ?_
  rintro e w9 he
  obtain ⟨rfl, b⟩ := drew_below he
  clear he
  replace OS : Hid (OwS 5 w1.heap.size w2.heap.size w9 (.slice sao N scap) N (fun i => .int .u8 (f i))) := OS.out.later b
  replace BS : Hid (Blk w9 w2.heap.size #[.int .i64 c, .int .i64 u, .int .i64 k, .slice sao N scap] 57) := BS.out.later b
  replace XS : Hid (OwS 5 w3.heap.size (w3.heap.size + 1) w9 (.slice (some ⟨w3.heap.size, 0, none⟩) n n) n (fun i => .int .u8 (F i))) := XS.out.later b
  replace OG : Hid (OwS 5 w4.heap.size w5.heap.size w9 (.slice gao N gcap) N (fun i => .int .u8 (f i))) := OG.out.later b
  replace BG : Hid (Blk w9 w5.heap.size #[.int .i64 c, .int .i64 u, .int .i64 k, .slice gao N gcap] 57) := BG.out.later b
  replace X2 : Hid (OwS 5 w7.heap.size (w7.heap.size + 1) w9 (.slice (some ⟨w7.heap.size, 0, none⟩) n n) n (fun i => .int .u8 (F i))) := X2.out.later b
  have Z9 : Hid (w8.heap.size ≤ w9.heap.size) := b.size
  replace HO : Hid (Below w.heap.size w w9) := HO.out.trans (b.mono HO.out.size)
  clear b
  clear X2
  go_wp2_with fail
  refine (MX.out _ _ _ _ XS.out).mono ?_
  rintro e w10 ⟨rfl, sm, wi, zm⟩
  have Z10 : Hid (w9.heap.size ≤ w10.heap.size) := Nat.le_of_eq zm.symm
  replace OS : Hid (OwS 5 w1.heap.size w2.heap.size w10 (.slice sao N scap) N (fun i => .int .u8 (f i))) := OS.out.under wi (by have := Z1.out; have := Y1.out; have := Z2.out; have := Y3.out; have := Z3.out; have := Z4.out; have := Y4.out; have := Z5.out; have := Y6.out; have := Z6.out; have := Z7.out; have := Z8.out; have := Y8.out; have := Z9.out; have := Z10.out; omega)
  replace BS : Hid (Blk w10 w2.heap.size #[.int .i64 c, .int .i64 u, .int .i64 k, .slice sao N scap] 57) := BS.out.under wi (by have := Z1.out; have := Y1.out; have := Z2.out; have := Y3.out; have := Z3.out; have := Z4.out; have := Y4.out; have := Z5.out; have := Y6.out; have := Z6.out; have := Z7.out; have := Z8.out; have := Y8.out; have := Z9.out; have := Z10.out; omega)
  replace OG : Hid (OwS 5 w4.heap.size w5.heap.size w10 (.slice gao N gcap) N (fun i => .int .u8 (f i))) := OG.out.under wi (by have := Z1.out; have := Y1.out; have := Z2.out; have := Y3.out; have := Z3.out; have := Z4.out; have := Y4.out; have := Z5.out; have := Y6.out; have := Z6.out; have := Z7.out; have := Z8.out; have := Y8.out; have := Z9.out; have := Z10.out; omega)
  replace BG : Hid (Blk w10 w5.heap.size #[.int .i64 c, .int .i64 u, .int .i64 k, .slice gao N gcap] 57) := BG.out.under wi (by have := Z1.out; have := Y1.out; have := Z2.out; have := Y3.out; have := Z3.out; have := Z4.out; have := Y4.out; have := Z5.out; have := Y6.out; have := Z6.out; have := Z7.out; have := Z8.out; have := Y8.out; have := Z9.out; have := Z10.out; omega)
  replace XS : Hid (OwS 5 w3.heap.size (w3.heap.size + 1) w10 (.slice (some ⟨w3.heap.size, 0, none⟩) n n) n (fun i => .int .u8 ((1 + i) % 256))) := sm
  replace HO : Hid (Below w.heap.size w w10) := HO.out.trans (wi.below.mono (by have := Z1.out; have := Y1.out; have := Z2.out; have := Y3.out; have := Z3.out; have := Z4.out; have := Y4.out; have := Z5.out; have := Y6.out; have := Z6.out; have := Z7.out; have := Z8.out; have := Y8.out; have := Z9.out; have := Z10.out; omega))
  clear wi zm sm
  clear XS
  have cs0 := BS.out.cell (j := 0) (v := .int .i64 c) rfl
  have cs1 := BS.out.cell (j := 1) (v := .int .i64 u) rfl
  have cs2 := BS.out.cell (j := 2) (v := .int .i64 k) rfl
  have cs3 := BS.out.cell (j := 3) (v := .slice sao N scap) rfl
  have cg0 := BG.out.cell (j := 0) (v := .int .i64 c) rfl
  have cg1 := BG.out.cell (j := 1) (v := .int .i64 u) rfl
  have cg2 := BG.out.cell (j := 2) (v := .int .i64 k) rfl
  have cg3 := BG.out.cell (j := 3) (v := .slice gao N gcap) rfl
  go_wp2_with fail
  refine (eqFr_same OG.out.rd OS.out.rd hN2).mono ?_
  rintro e w11 ⟨rfl, b⟩
  replace OS : Hid (OwS 5 w1.heap.size w2.heap.size w11 (.slice sao N scap) N (fun i => .int .u8 (f i))) := OS.out.later b
  replace BS : Hid (Blk w11 w2.heap.size #[.int .i64 c, .int .i64 u, .int .i64 k, .slice sao N scap] 57) := BS.out.later b
  replace OG : Hid (OwS 5 w4.heap.size w5.heap.size w11 (.slice gao N gcap) N (fun i => .int .u8 (f i))) := OG.out.later b
  replace BG : Hid (Blk w11 w5.heap.size #[.int .i64 c, .int .i64 u, .int .i64 k, .slice gao N gcap] 57) := BG.out.later b
  have Z11 : Hid (w10.heap.size ≤ w11.heap.size) := b.size
  replace HO : Hid (Below w.heap.size w w11) := HO.out.trans (b.mono HO.out.size)
  clear b
  clear cs0 cs1 cs2 cs3 cg0 cg1 cg2 cg3
  have cg0 := BG.out.cell (j := 0) (v := .int .i64 c) rfl
  have cg1 := BG.out.cell (j := 1) (v := .int .i64 u) rfl
  have cg2 := BG.out.cell (j := 2) (v := .int .i64 k) rfl
  have cg3 := BG.out.cell (j := 3) (v := .slice gao N gcap) rfl
  go_wp2_with fail
  refine (MK.out _ _ _ _ (by have := Z1.out; have := Y1.out; have := Z2.out; have := Y3.out; have := Z3.out; have := Z4.out; have := Y4.out; have := Z5.out; have := Y6.out; have := Z6.out; have := Z7.out; have := Z8.out; have := Y8.out; have := Z9.out; have := Z10.out; have := Z11.out; omega) OG.out).mono ?_
  rintro e w12 ⟨rfl, sm, wi, zm⟩
  have Z12 : Hid (w11.heap.size ≤ w12.heap.size) := zm
  replace OS : Hid (OwS 5 w1.heap.size w2.heap.size w12 (.slice sao N scap) N (fun i => .int .u8 (f i))) := OS.out.under wi (by have := Z1.out; have := Y1.out; have := Z2.out; have := Y3.out; have := Z3.out; have := Z4.out; have := Y4.out; have := Z5.out; have := Y6.out; have := Z6.out; have := Z7.out; have := Z8.out; have := Y8.out; have := Z9.out; have := Z10.out; have := Z11.out; have := Z12.out; omega)
  replace BS : Hid (Blk w12 w2.heap.size #[.int .i64 c, .int .i64 u, .int .i64 k, .slice sao N scap] 57) := BS.out.under wi (by have := Z1.out; have := Y1.out; have := Z2.out; have := Y3.out; have := Z3.out; have := Z4.out; have := Y4.out; have := Z5.out; have := Y6.out; have := Z6.out; have := Z7.out; have := Z8.out; have := Y8.out; have := Z9.out; have := Z10.out; have := Z11.out; have := Z12.out; omega)
  replace BG : Hid (Blk w12 w5.heap.size #[.int .i64 c, .int .i64 u, .int .i64 k, .slice gao N gcap] 57) := BG.out.under wi (by have := Z1.out; have := Y1.out; have := Z2.out; have := Y3.out; have := Z3.out; have := Z4.out; have := Y4.out; have := Z5.out; have := Y6.out; have := Z6.out; have := Z7.out; have := Z8.out; have := Y8.out; have := Z9.out; have := Z10.out; have := Z11.out; have := Z12.out; omega)
  replace OG : Hid (OwS 5 w4.heap.size w5.heap.size w12 (.slice gao N gcap) N (fun i => .int .u8 ((1 + i) % 256))) := sm
  replace HO : Hid (Below w.heap.size w w12) := HO.out.trans (wi.below.mono (by have := Z1.out; have := Y1.out; have := Z2.out; have := Y3.out; have := Z3.out; have := Z4.out; have := Y4.out; have := Z5.out; have := Y6.out; have := Z6.out; have := Z7.out; have := Z8.out; have := Y8.out; have := Z9.out; have := Z10.out; have := Z11.out; have := Z12.out; omega))
  clear wi zm sm
  clear cg0 cg1 cg2 cg3
  have cg0 := BG.out.cell (j := 0) (v := .int .i64 c) rfl
  have cg1 := BG.out.cell (j := 1) (v := .int .i64 u) rfl
  have cg2 := BG.out.cell (j := 2) (v := .int .i64 k) rfl
  have cg3 := BG.out.cell (j := 3) (v := .slice gao N gcap) rfl
  go_wp2_with fail
  refine (HL.out _ _ _ _ OG.out).mono ?_
  rintro e w13 ⟨rfl, b⟩
  replace OS : Hid (OwS 5 w1.heap.size w2.heap.size w13 (.slice sao N scap) N (fun i => .int .u8 (f i))) := OS.out.later b
  replace BS : Hid (Blk w13 w2.heap.size #[.int .i64 c, .int .i64 u, .int .i64 k, .slice sao N scap] 57) := BS.out.later b
  replace OG : Hid (OwS 5 w4.heap.size w5.heap.size w13 (.slice gao N gcap) N (fun i => .int .u8 ((1 + i) % 256))) := OG.out.later b
  replace BG : Hid (Blk w13 w5.heap.size #[.int .i64 c, .int .i64 u, .int .i64 k, .slice gao N gcap] 57) := BG.out.later b
  have Z13 : Hid (w12.heap.size ≤ w13.heap.size) := b.size
  replace HO : Hid (Below w.heap.size w w13) := HO.out.trans (b.mono HO.out.size)
  clear b
  clear cg0 cg1 cg2 cg3
  go_wp2_with fail
  refine (toB_any (RA.out.later HO.out) hm).mono ?_
  rintro e w14 ⟨rfl, sm, b, hz⟩
  have Y14 : Hid (w13.heap.size + 1 ≤ w14.heap.size) := by show _ ≤ _; omega
  have X3 : Hid (OwS 5 w13.heap.size (w13.heap.size + 1) w14 (.slice (some ⟨w13.heap.size, 0, none⟩) n n) n (fun i => .int .u8 (F i))) := Or.inr ⟨_, _, rfl, Nat.le_refl _, Nat.lt_succ_self _, sm⟩
  clear sm hz
  replace OS : Hid (OwS 5 w1.heap.size w2.heap.size w14 (.slice sao N scap) N (fun i => .int .u8 (f i))) := OS.out.later b
  replace BS : Hid (Blk w14 w2.heap.size #[.int .i64 c, .int .i64 u, .int .i64 k, .slice sao N scap] 57) := BS.out.later b
  replace OG : Hid (OwS 5 w4.heap.size w5.heap.size w14 (.slice gao N gcap) N (fun i => .int .u8 ((1 + i) % 256))) := OG.out.later b
  replace BG : Hid (Blk w14 w5.heap.size #[.int .i64 c, .int .i64 u, .int .i64 k, .slice gao N gcap] 57) := BG.out.later b
  have Z14 : Hid (w13.heap.size ≤ w14.heap.size) := b.size
  replace HO : Hid (Below w.heap.size w w14) := HO.out.trans (b.mono HO.out.size)
  clear b
  go_wp2_with fail
  refine (IC.out _ _ _ _ X3.out (HE0.out.later HO.out)).mono ?_
  rintro e w15 ⟨vh, rfl, oh, b⟩
  obtain ⟨hao, hcap, rfl⟩ := oh.form
  have OH : Hid (OwS 5 w14.heap.size w15.heap.size w15 (.slice hao N hcap) N (fun i => .int .u8 (f i))) := oh
  clear oh
  replace OS : Hid (OwS 5 w1.heap.size w2.heap.size w15 (.slice sao N scap) N (fun i => .int .u8 (f i))) := OS.out.later b
  replace BS : Hid (Blk w15 w2.heap.size #[.int .i64 c, .int .i64 u, .int .i64 k, .slice sao N scap] 57) := BS.out.later b
  replace OG : Hid (OwS 5 w4.heap.size w5.heap.size w15 (.slice gao N gcap) N (fun i => .int .u8 ((1 + i) % 256))) := OG.out.later b
  replace BG : Hid (Blk w15 w5.heap.size #[.int .i64 c, .int .i64 u, .int .i64 k, .slice gao N gcap] 57) := BG.out.later b
  replace X3 : Hid (OwS 5 w13.heap.size (w13.heap.size + 1) w15 (.slice (some ⟨w13.heap.size, 0, none⟩) n n) n (fun i => .int .u8 (F i))) := X3.out.later b
  have Z15 : Hid (w14.heap.size ≤ w15.heap.size) := b.size
  replace HO : Hid (Below w.heap.size w w15) := HO.out.trans (b.mono HO.out.size)
  clear b
  go_upto_region 23 with fail
  obtain ⟨w16, hwd⟩ : ∃ W, W = w15.alloc (.cells #[.int .i64 c, .int .i64 u, .int .i64 k, .slice hao N hcap] 57) := ⟨_, rfl⟩
  have BH : Hid (Blk w16 w15.heap.size #[.int .i64 c, .int .i64 u, .int .i64 k, .slice hao N hcap] 57) := by show Blk _ _ _ _; rw [hwd]; exact Blk.new rfl
  have b : Below w15.heap.size w15 w16 := by rw [hwd]; exact (Below.refl _ _).alloc (Nat.le_refl _) _
  have Y16 : Hid (w15.heap.size + 1 ≤ w16.heap.size) := by show _ ≤ _; rw [hwd]; simp
  rw [← hwd]
  clear hwd
  replace OS : Hid (OwS 5 w1.heap.size w2.heap.size w16 (.slice sao N scap) N (fun i => .int .u8 (f i))) := OS.out.later b
  replace BS : Hid (Blk w16 w2.heap.size #[.int .i64 c, .int .i64 u, .int .i64 k, .slice sao N scap] 57) := BS.out.later b
  replace OG : Hid (OwS 5 w4.heap.size w5.heap.size w16 (.slice gao N gcap) N (fun i => .int .u8 ((1 + i) % 256))) := OG.out.later b
  replace BG : Hid (Blk w16 w5.heap.size #[.int .i64 c, .int .i64 u, .int .i64 k, .slice gao N gcap] 57) := BG.out.later b
  replace X3 : Hid (OwS 5 w13.heap.size (w13.heap.size + 1) w16 (.slice (some ⟨w13.heap.size, 0, none⟩) n n) n (fun i => .int .u8 (F i))) := X3.out.later b
  replace OH : Hid (OwS 5 w14.heap.size w15.heap.size w16 (.slice hao N hcap) N (fun i => .int .u8 (f i))) := OH.out.later b
  have Z16 : Hid (w15.heap.size ≤ w16.heap.size) := b.size
  replace HO : Hid (Below w.heap.size w w16) := HO.out.trans (b.mono HO.out.size)
  clear b
  clear X3
  have cs0 := BS.out.cell (j := 0) (v := .int .i64 c) rfl
  have cs1 := BS.out.cell (j := 1) (v := .int .i64 u) rfl
  have cs2 := BS.out.cell (j := 2) (v := .int .i64 k) rfl
  have cs3 := BS.out.cell (j := 3) (v := .slice sao N scap) rfl
  have ch0 := BH.out.cell (j := 0) (v := .int .i64 c) rfl
  have ch1 := BH.out.cell (j := 1) (v := .int .i64 u) rfl
  have ch2 := BH.out.cell (j := 2) (v := .int .i64 k) rfl
  have ch3 := BH.out.cell (j := 3) (v := .slice hao N hcap) rfl
  go_wp2_with fail
  refine (eqFr_same OH.out.rd OS.out.rd hN2).mono ?_
  rintro e w17 ⟨rfl, b⟩
  replace OS : Hid (OwS 5 w1.heap.size w2.heap.size w17 (.slice sao N scap) N (fun i => .int .u8 (f i))) := OS.out.later b
  replace BS : Hid (Blk w17 w2.heap.size #[.int .i64 c, .int .i64 u, .int .i64 k, .slice sao N scap] 57) := BS.out.later b
  replace OG : Hid (OwS 5 w4.heap.size w5.heap.size w17 (.slice gao N gcap) N (fun i => .int .u8 ((1 + i) % 256))) := OG.out.later b
  replace BG : Hid (Blk w17 w5.heap.size #[.int .i64 c, .int .i64 u, .int .i64 k, .slice gao N gcap] 57) := BG.out.later b
  replace OH : Hid (OwS 5 w14.heap.size w15.heap.size w17 (.slice hao N hcap) N (fun i => .int .u8 (f i))) := OH.out.later b
  replace BH : Hid (Blk w17 w15.heap.size #[.int .i64 c, .int .i64 u, .int .i64 k, .slice hao N hcap] 57) := BH.out.later b
  have Z17 : Hid (w16.heap.size ≤ w17.heap.size) := b.size
  replace HO : Hid (Below w.heap.size w w17) := HO.out.trans (b.mono HO.out.size)
  clear b
  clear cs0 cs1 cs2 cs3 ch0 ch1 ch2 ch3
  have cg0 := BG.out.cell (j := 0) (v := .int .i64 c) rfl
  have cg1 := BG.out.cell (j := 1) (v := .int .i64 u) rfl
  have cg2 := BG.out.cell (j := 2) (v := .int .i64 k) rfl
  have cg3 := BG.out.cell (j := 3) (v := .slice gao N gcap) rfl
  go_wp2_with fail
  refine (HL.out _ _ _ _ OG.out).mono ?_
  rintro e w18 ⟨rfl, b⟩
  replace OS : Hid (OwS 5 w1.heap.size w2.heap.size w18 (.slice sao N scap) N (fun i => .int .u8 (f i))) := OS.out.later b
  replace BS : Hid (Blk w18 w2.heap.size #[.int .i64 c, .int .i64 u, .int .i64 k, .slice sao N scap] 57) := BS.out.later b
  replace OG : Hid (OwS 5 w4.heap.size w5.heap.size w18 (.slice gao N gcap) N (fun i => .int .u8 ((1 + i) % 256))) := OG.out.later b
  replace BG : Hid (Blk w18 w5.heap.size #[.int .i64 c, .int .i64 u, .int .i64 k, .slice gao N gcap] 57) := BG.out.later b
  replace OH : Hid (OwS 5 w14.heap.size w15.heap.size w18 (.slice hao N hcap) N (fun i => .int .u8 (f i))) := OH.out.later b
  replace BH : Hid (Blk w18 w15.heap.size #[.int .i64 c, .int .i64 u, .int .i64 k, .slice hao N hcap] 57) := BH.out.later b
  have Z18 : Hid (w17.heap.size ≤ w18.heap.size) := b.size
  replace HO : Hid (Below w.heap.size w w18) := HO.out.trans (b.mono HO.out.size)
  clear b
  clear cg0 cg1 cg2 cg3
  go_wp2
  go_ret
  exact ⟨rfl, HO.out⟩

set_option maxRecDepth 100000 in
theorem lifted (os : Os) (started : os.Started) (H : Type) (enc : TypeId × Value → H) :
    ReturnsInHanded {} Tryd.checked os 6 .any (fun w args => (Rows.fnExactReadFrameSpec.pre enc Tryd.prog Tryd.f6 [] false w args ∧ laidMetH Tryd.prog laidE w) ∧ sizedMet enc Tryd.prog Tryd.f6 (OpenSpec.ofChange Rows.fnExactReadFrameSpec) false w args)
      (Rows.fnExactReadFrameSpec.post enc Tryd.prog Tryd.f6 false true false false) := by
  refine returnsInHanded_of_change_and (C := Tryd.checked) (X := fun w _ => laidMetH Tryd.prog laidE w) (fun _ _ _ hh h => h.of_heap hh) own started (by kernel_rfl) Tryd.func6
    (ChangeSpec.witness_shaped (enc := enc) (C := Tryd.checked) (os := os) (X := fun w _ => laidMetH Tryd.prog laidE w) false (World.doorLaid Tryd.prog 400 os) #[.slice none 0 0] 8 rfl (World.shaped_of_RefB (by kernel_rfl) (by kernel_rfl)) (by kernel_rfl) (by kernel_rfl) (by kernel_rfl) (door_met os _)) ?_
  intro W base args ds gs before hval0 hW _ _ hL _
  have hval : ∀ (j : Nat) t v, Tryd.f6.params[j]? = some t → args[j]? = some v → Value.okWide Tryd.prog W .any base t v := hval0
  have hW' := hW
  obtain ⟨p, q, hA0, hV, rfl, hfz, hnd⟩ := hW
  have hA : DataW.TrodAll enc Tryd.prog W 0 (fun _ => true) true Tryd.f6.params.toList args.toList ds p := hA0
  rw [Tryd.params6] at hA hval
  obtain ⟨v0, vs0, d0, ds0, p0, q0, hargs0, rfl, rfl, h0, r0⟩ := trodAll_cons hA
  obtain ⟨rfl, rfl, rfl⟩ := trodAll_nil r0
  obtain rfl : args = #[v0] := by cases args; simp_all
  obtain ⟨rfl, rfl⟩ := trodVars_none hV
  have k0 := h0
  have lt0 : ∀ x ∈ p0, x.block < W.heap.size := by obtain ⟨m, hm⟩ := k0; exact DataW.trod_lt m _ _ _ hm
  obtain ⟨n0, F0, R0, nb0, fb0⟩ := open_bytes (hval 0 22 v0 rfl rfl) h0
  clear hA0 hval0
  refine (walk R0 nb0 fb0 (et_of hL)).mono fun e W' ⟨he, bel⟩ => ?_
  subst he
  exact ⟨_, rfl, _, _, _, [], _, [], hW', trodAll_mk1 (shut_bool Tryd.underlying4 _), (trodAll_cons_mk (Below.trod laidOut (by kernel_rfl) (of_decide_eq_true (by kernel_rfl)) k0 bel lt0) trodAll_mk0), rfl, bel.frame _, fun h => by cases h⟩

theorem said : Rows.FnExactReadFrameSaid :=
  OpenClaim.holds_of_wide 6 Tryd.f6 rfl rfl rfl rfl rfl rfl rfl ⟨rfl, rfl, rfl, rfl, rfl⟩ rfl rfl rfl rfl rfl (by kernel_rfl) Tryd.func6 (by kernel_rfl)
    (of_decide_eq_true (by kernel_rfl)) (by unfold Func.isWrapper; first | (rw [if_pos (by decide +kernel)]; kernel_rfl) | (rw [if_neg (by decide +kernel)]; exact ⟨rfl, rfl⟩))
    (fun os started H enc _ => lifted os started H enc)
end Go.Proofs.YtdknclkecbdpgaaDoor.LawReadFrame
namespace Go.Proofs.YtdknclkecbdpgaaDoor
open Go.ChangeShapes Go.WideShapes Go.ChangeAt Go.RowKit Go.Joins
theorem readFrame_holds : Rows.FnExactReadFrameCardSaid :=
  Claim7.holds_tied_plain_at .later [] [.handle] true (true, "2a3ea9277edea9f13354192899e1050bff61de88375e0959a28fc33a2f330f7e") true
    LawReadFrame.said (fun _ h => by cases h) (by kernel_rfl) (fun _ h => by cases h) fnExactReadFrame_row_tie rfl ⟨rfl, rfl⟩ (by kernel_rfl) rfl
    (fun f fn hf hfn => by
      obtain rfl : f = 6 := Option.some.inj ((show Tryd.prog.funcNamed "loop.example/g00049/laws.FnExactReadFrame" = some 6 by kernel_rfl).symm.trans hf) |>.symm
      obtain rfl : fn = Tryd.f6 := (Option.some.inj (Tryd.func6.symm.trans hfn)).symm
      exact ⟨by kernel_rfl, fun j t ht => by
        rw [Tryd.params6] at ht
        have hm : t ∈ [22] := by simpa using Array.mem_of_getElem? ht
        have hall : ([22].all fun u => !Tryd.prog.wantsStandIn u) = true := by kernel_rfl
        exact (show Tryd.prog.wantsStandIn t = false by simpa using List.all_eq_true.1 hall t hm)⟩)
    (by kernel_rfl)
#print axioms readFrame_holds
end Go.Proofs.YtdknclkecbdpgaaDoor
