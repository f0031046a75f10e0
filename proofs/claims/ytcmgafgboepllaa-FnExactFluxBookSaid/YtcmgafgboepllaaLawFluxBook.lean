/- At every list of dots, side and cell the program's FluxBook answers as the specification, in memory of its own that neither the argument's marks nor a second call reach, where the law's own bound on the list's length does not answer first; nothing that was there is changed. -/
import Derived.Test.YtcmgafgboepllaaDm
import Derived.Handy
import Derived.Deep.RegionHeld3
import Derived.Deep.DeepCutAuto
namespace Go.Proofs.Ytcmgafgboepllaa.LawFluxBook
open Go.ChangeShapes Go.WideShapes Go.ChangeAt Go.RowKit Go.Joins Fl
set_option linter.unusedVariables false

set_option maxRecDepth 100000 in
set_option maxHeartbeats 6400000 in
theorem walk {w : World} {v : Value} {n : Nat} {G : Nat → Nat → Nat} (h : RdV w v n 2 (fun i j => fcl (G i) j)) (hn : n ≤ 9223372036854775807) (hG : ∀ i, i < n → ∀ j, j < 2 → G i j < 18446744073709551616) (s : Int) {cc : Nat} {CC : Option Nat} (hcc : Fc cc CC) :
    Calls Try.prog 8 #[v, .int .i64 s, .float .f64 cc] w fun e w' => e = .returned (.bool true) ∧ Below w.heap.size w w' := by
  obtain ⟨ao, cap, rfl⟩ := h.form
  have H : Hid (RdV w (.slice ao n cap) n 2 (fun i j => fcl (G i) j)) := h
  have HG : Hid (∀ i, i < n → Dc (G i) (fun j => cl (G i j))) := fun i hi => ⟨fun j hj => fc_own (hG i hi j hj)⟩
  clear h
  have HZ : Hid (∀ W, Calls Try.prog 10 #[.slice ao n cap, .int .i64 1048576] W fun e w' => e = .returned (.int .i64 (if 1048576 < n then -1 else 1048576 - n)) ∧ W = w') := fun W => szDos_any ao n cap W hn
  go_enter Try.func8, Try.ntmps8
  by_cases hb : 1048576 < n
  · rw [if_pos hb] at HZ
    go_wp2_with (go_at_call 10; refine (HZ.out _).mono ?_; rintro e w' ⟨rfl, rfl⟩)
    go_ret
    exact ⟨rfl, Below.refl _ _⟩
  rw [if_neg hb] at HZ
  have hn1 : n ≤ 1048576 := by omega
  have hn3 : n ≤ 1000000000 := by omega
  have hn2 : n ≤ 1000000000000 := by omega
  have hnI : ¬ ((1048576 : Int) - n < 0) := by omega
  obtain ⟨c, N, F, l, hN, SC0, IC0⟩ := flux_both n cc s G hn2 hcc.lx hG
  have SC : Hid (∀ W b, SegV W b 78 n 2 (fun i j => fcl (G i) j) → FX 43 #[.slice (some ⟨b, 0, none⟩) n n, .int .i64 s, .float .f64 cc] W c N F l) := SC0
  have IC : Hid (∀ W b, SegV W b 78 n 2 (fun i j => fcl (G i) j) → FX 44 #[.slice (some ⟨b, 0, none⟩) n n, .int .i64 s, .float .f64 cc] W c N F l) := IC0
  clear SC0 IC0 hG hcc
  have hN2 : N ≤ 1000000000000 := by omega
  obtain ⟨M, hM⟩ : ∃ M : Int, M = 1 + N := ⟨_, rfl⟩
  have hM0 : ¬ M < 0 := by omega
  have hM1 : M ≤ 1000 := by omega
  obtain ⟨MX, hMX⟩ : ∃ M : Int, M = 1 + 2 * n := ⟨_, rfl⟩
  have hMX0 : ¬ MX < 0 := by omega
  have hMX1 : MX ≤ 10000000 := by omega
  have MK : Hid (∀ (lo hi : Nat) (W : World) (v : Value) (f : Nat → Int), lo ≤ W.heap.size → OwS 2 lo hi W v N (fun i => .int .i64 (f i)) → Calls Try.prog 47 #[Fx c v l, .int .i64 1] W fun e w' => e = .returned (.int .i64 M) ∧ OwS 2 lo hi w' v N (fun i => .int .i64 (1 + i)) ∧ Within lo hi W w' ∧ W.heap.size ≤ w'.heap.size) := fun lo hi W v f hl h => by rw [hM]; exact markFlux_own h hl 1 (by omega) (by omega)
  have HL : Hid (∀ (lo hi : Nat) (W : World) (v : Value), OwS 2 lo hi W v N (fun i => .int .i64 (1 + i)) → Calls Try.prog 48 #[Fx c v l, .int .i64 1] W fun e w' => e = .returned (.int .i64 M) ∧ Below W.heap.size W w') := fun lo hi W v h => by rw [hM]; exact heldFlux_own h (by omega) (by omega)
  have MR : Hid (∀ (W : World) (b : Nat), SegV W b 78 n 2 (fun i j => fcl (G i) j) → Calls Try.prog 46 #[.slice (some ⟨b, 0, none⟩) n n, .int .i64 1] W fun e w' => e = .returned (.int .i64 MX) ∧ True ∧ Within b (b + 1) W w' ∧ w'.heap.size = W.heap.size) := fun W b h => by rw [hMX]; exact markDo_own hn1 h
  clear hM hMX
  have HO : Hid (Below w.heap.size w w) := Below.refl _ _
  go_wp2_with (go_at_call 10; refine (HZ.out _).mono ?_; rintro e w' ⟨rfl, rfl⟩)
  clear HZ
  go_wp2_with fail
  refine (toDos_any (H.out.later HO.out) hn3).mono ?_
  rintro e w1 ⟨rfl, sx, b⟩
  have SA : Hid (SegV w1 w.heap.size 78 n 2 (fun i j => fcl (G i) j)) := sx
  clear sx
  have Z1 : Hid (w.heap.size ≤ w1.heap.size) := b.size
  replace HO : Hid (Below w.heap.size w w1) := HO.out.trans (b.mono HO.out.size)
  clear b
  have Q1 : Hid (w.heap.size + 1 ≤ w1.heap.size) := SA.out.lt
  go_wp2_with fail
  refine (SC.out _ _ SA.out).mono ?_
  rintro e w2 ⟨vs, rfl, os, b⟩
  obtain ⟨sao, scap, rfl⟩ := os.form
  have OS : Hid (OwS 2 w1.heap.size w2.heap.size w2 (.slice sao N scap) N (fun i => .int .i64 (F i))) := os
  clear os
  replace SA : Hid (SegV w2 w.heap.size 78 n 2 (fun i j => fcl (G i) j)) := SA.out.later b
  have Z2 : Hid (w1.heap.size ≤ w2.heap.size) := b.size
  replace HO : Hid (Below w.heap.size w w2) := HO.out.trans (b.mono HO.out.size)
  clear b
  clear SA
  go_upto_region 6 with fail
  obtain ⟨w3, hwd⟩ : ∃ W, W = w2.alloc (.cells #[.int .i64 c, .slice sao N scap, .int .i64 l] 66) := ⟨_, rfl⟩
  have BS : Hid (Blk w3 w2.heap.size #[.int .i64 c, .slice sao N scap, .int .i64 l] 66) := by show Blk _ _ _ _; rw [hwd]; exact Blk.new rfl
  have b : Below w2.heap.size w2 w3 := by rw [hwd]; exact (Below.refl _ _).alloc (Nat.le_refl _) _
  have Y3 : Hid (w2.heap.size + 1 ≤ w3.heap.size) := by show _ ≤ _; rw [hwd]; simp
  rw [← hwd]
  clear hwd
  replace OS : Hid (OwS 2 w1.heap.size w2.heap.size w3 (.slice sao N scap) N (fun i => .int .i64 (F i))) := OS.out.later b
  have Z3 : Hid (w2.heap.size ≤ w3.heap.size) := b.size
  replace HO : Hid (Below w.heap.size w w3) := HO.out.trans (b.mono HO.out.size)
  clear b
  go_wp2_with fail
  refine (toDos_any (H.out.later HO.out) hn3).mono ?_
  rintro e w4 ⟨rfl, sx, b⟩
  have SX : Hid (SegV w4 w3.heap.size 78 n 2 (fun i j => fcl (G i) j)) := sx
  clear sx
  replace OS : Hid (OwS 2 w1.heap.size w2.heap.size w4 (.slice sao N scap) N (fun i => .int .i64 (F i))) := OS.out.later b
  replace BS : Hid (Blk w4 w2.heap.size #[.int .i64 c, .slice sao N scap, .int .i64 l] 66) := BS.out.later b
  have Z4 : Hid (w3.heap.size ≤ w4.heap.size) := b.size
  replace HO : Hid (Below w.heap.size w w4) := HO.out.trans (b.mono HO.out.size)
  clear b
  have Q4 : Hid (w3.heap.size + 1 ≤ w4.heap.size) := SX.out.lt
  go_wp2_with fail
  refine (IC.out _ _ SX.out).mono ?_
  rintro e w5 ⟨vg, rfl, og, b⟩
  obtain ⟨gao, gcap, rfl⟩ := og.form
  have OG : Hid (OwS 2 w4.heap.size w5.heap.size w5 (.slice gao N gcap) N (fun i => .int .i64 (F i))) := og
  clear og
  replace OS : Hid (OwS 2 w1.heap.size w2.heap.size w5 (.slice sao N scap) N (fun i => .int .i64 (F i))) := OS.out.later b
  replace BS : Hid (Blk w5 w2.heap.size #[.int .i64 c, .slice sao N scap, .int .i64 l] 66) := BS.out.later b
  replace SX : Hid (SegV w5 w3.heap.size 78 n 2 (fun i j => fcl (G i) j)) := SX.out.later b
  have Z5 : Hid (w4.heap.size ≤ w5.heap.size) := b.size
  replace HO : Hid (Below w.heap.size w w5) := HO.out.trans (b.mono HO.out.size)
  clear b
  go_upto_region 8 with fail
  obtain ⟨w6, hwd⟩ : ∃ W, W = w5.alloc (.cells #[.int .i64 c, .slice gao N gcap, .int .i64 l] 66) := ⟨_, rfl⟩
  have BG : Hid (Blk w6 w5.heap.size #[.int .i64 c, .slice gao N gcap, .int .i64 l] 66) := by show Blk _ _ _ _; rw [hwd]; exact Blk.new rfl
  have b : Below w5.heap.size w5 w6 := by rw [hwd]; exact (Below.refl _ _).alloc (Nat.le_refl _) _
  have Y6 : Hid (w5.heap.size + 1 ≤ w6.heap.size) := by show _ ≤ _; rw [hwd]; simp
  rw [← hwd]
  clear hwd
  replace OS : Hid (OwS 2 w1.heap.size w2.heap.size w6 (.slice sao N scap) N (fun i => .int .i64 (F i))) := OS.out.later b
  replace BS : Hid (Blk w6 w2.heap.size #[.int .i64 c, .slice sao N scap, .int .i64 l] 66) := BS.out.later b
  replace SX : Hid (SegV w6 w3.heap.size 78 n 2 (fun i j => fcl (G i) j)) := SX.out.later b
  replace OG : Hid (OwS 2 w4.heap.size w5.heap.size w6 (.slice gao N gcap) N (fun i => .int .i64 (F i))) := OG.out.later b
  have Z6 : Hid (w5.heap.size ≤ w6.heap.size) := b.size
  replace HO : Hid (Below w.heap.size w w6) := HO.out.trans (b.mono HO.out.size)
  clear b
  have cs0 := BS.out.cell (j := 0) (v := .int .i64 c) rfl
  have cs1 := BS.out.cell (j := 1) (v := .slice sao N scap) rfl
  have cs2 := BS.out.cell (j := 2) (v := .int .i64 l) rfl
  have cg0 := BG.out.cell (j := 0) (v := .int .i64 c) rfl
  have cg1 := BG.out.cell (j := 1) (v := .slice gao N gcap) rfl
  have cg2 := BG.out.cell (j := 2) (v := .int .i64 l) rfl
  go_wp2_with fail
  refine (eqFlux_same OG.out.rdI OS.out.rdI hN2).mono ?_
  rintro e w7 ⟨rfl, b⟩
  replace OS : Hid (OwS 2 w1.heap.size w2.heap.size w7 (.slice sao N scap) N (fun i => .int .i64 (F i))) := OS.out.later b
  replace BS : Hid (Blk w7 w2.heap.size #[.int .i64 c, .slice sao N scap, .int .i64 l] 66) := BS.out.later b
  replace SX : Hid (SegV w7 w3.heap.size 78 n 2 (fun i j => fcl (G i) j)) := SX.out.later b
  replace OG : Hid (OwS 2 w4.heap.size w5.heap.size w7 (.slice gao N gcap) N (fun i => .int .i64 (F i))) := OG.out.later b
  replace BG : Hid (Blk w7 w5.heap.size #[.int .i64 c, .slice gao N gcap, .int .i64 l] 66) := BG.out.later b
  have Z7 : Hid (w6.heap.size ≤ w7.heap.size) := b.size
  replace HO : Hid (Below w.heap.size w w7) := HO.out.trans (b.mono HO.out.size)
  clear b
  clear cs0 cs1 cs2 cg0 cg1 cg2
  go_wp2_with fail
  refine (toDos_any (H.out.later HO.out) hn3).mono ?_
  rintro e w8 ⟨rfl, sx, b⟩
  have SY : Hid (SegV w8 w7.heap.size 78 n 2 (fun i j => fcl (G i) j)) := sx
  clear sx
  replace OS : Hid (OwS 2 w1.heap.size w2.heap.size w8 (.slice sao N scap) N (fun i => .int .i64 (F i))) := OS.out.later b
  replace BS : Hid (Blk w8 w2.heap.size #[.int .i64 c, .slice sao N scap, .int .i64 l] 66) := BS.out.later b
  replace SX : Hid (SegV w8 w3.heap.size 78 n 2 (fun i j => fcl (G i) j)) := SX.out.later b
  replace OG : Hid (OwS 2 w4.heap.size w5.heap.size w8 (.slice gao N gcap) N (fun i => .int .i64 (F i))) := OG.out.later b
  replace BG : Hid (Blk w8 w5.heap.size #[.int .i64 c, .slice gao N gcap, .int .i64 l] 66) := BG.out.later b
  have Z8 : Hid (w7.heap.size ≤ w8.heap.size) := b.size
  replace HO : Hid (Below w.heap.size w w8) := HO.out.trans (b.mono HO.out.size)
  clear b
  have Q8 : Hid (w7.heap.size + 1 ≤ w8.heap.size) := SY.out.lt
  go_wp2_with fail
  refine (eqDos_same _ _ _ _ n G G (fun i j => cl (G i j)) _ hn2 SX.out SY.out HG.out HG.out).mono ?_
  rintro e w9 ⟨rfl, b⟩
  replace OS : Hid (OwS 2 w1.heap.size w2.heap.size w9 (.slice sao N scap) N (fun i => .int .i64 (F i))) := OS.out.later b
  replace BS : Hid (Blk w9 w2.heap.size #[.int .i64 c, .slice sao N scap, .int .i64 l] 66) := BS.out.later b
  replace SX : Hid (SegV w9 w3.heap.size 78 n 2 (fun i j => fcl (G i) j)) := SX.out.later b
  replace OG : Hid (OwS 2 w4.heap.size w5.heap.size w9 (.slice gao N gcap) N (fun i => .int .i64 (F i))) := OG.out.later b
  replace BG : Hid (Blk w9 w5.heap.size #[.int .i64 c, .slice gao N gcap, .int .i64 l] 66) := BG.out.later b
  replace SY : Hid (SegV w9 w7.heap.size 78 n 2 (fun i j => fcl (G i) j)) := SY.out.later b
  have Z9 : Hid (w8.heap.size ≤ w9.heap.size) := b.size
  replace HO : Hid (Below w.heap.size w w9) := HO.out.trans (b.mono HO.out.size)
  clear b
  clear SY
  go_wp2_with fail
  refine (MR.out _ _ SX.out).mono ?_
  rintro e w10 ⟨rfl, sm, wi, zm⟩
  have Z10 : Hid (w9.heap.size ≤ w10.heap.size) := Nat.le_of_eq zm.symm
  replace OS : Hid (OwS 2 w1.heap.size w2.heap.size w10 (.slice sao N scap) N (fun i => .int .i64 (F i))) := OS.out.under wi (by have := Z1.out; have := Q1.out; have := Z2.out; have := Y3.out; have := Z3.out; have := Z4.out; have := Q4.out; have := Z5.out; have := Y6.out; have := Z6.out; have := Z7.out; have := Z8.out; have := Q8.out; have := Z9.out; have := Z10.out; omega)
  replace BS : Hid (Blk w10 w2.heap.size #[.int .i64 c, .slice sao N scap, .int .i64 l] 66) := BS.out.under wi (by have := Z1.out; have := Q1.out; have := Z2.out; have := Y3.out; have := Z3.out; have := Z4.out; have := Q4.out; have := Z5.out; have := Y6.out; have := Z6.out; have := Z7.out; have := Z8.out; have := Q8.out; have := Z9.out; have := Z10.out; omega)
  replace OG : Hid (OwS 2 w4.heap.size w5.heap.size w10 (.slice gao N gcap) N (fun i => .int .i64 (F i))) := OG.out.under wi (by have := Z1.out; have := Q1.out; have := Z2.out; have := Y3.out; have := Z3.out; have := Z4.out; have := Q4.out; have := Z5.out; have := Y6.out; have := Z6.out; have := Z7.out; have := Z8.out; have := Q8.out; have := Z9.out; have := Z10.out; omega)
  replace BG : Hid (Blk w10 w5.heap.size #[.int .i64 c, .slice gao N gcap, .int .i64 l] 66) := BG.out.under wi (by have := Z1.out; have := Q1.out; have := Z2.out; have := Y3.out; have := Z3.out; have := Z4.out; have := Q4.out; have := Z5.out; have := Y6.out; have := Z6.out; have := Z7.out; have := Z8.out; have := Q8.out; have := Z9.out; have := Z10.out; omega)
  clear SX sm
  replace HO : Hid (Below w.heap.size w w10) := HO.out.trans (wi.below.mono (by have := Z1.out; have := Q1.out; have := Z2.out; have := Y3.out; have := Z3.out; have := Z4.out; have := Q4.out; have := Z5.out; have := Y6.out; have := Z6.out; have := Z7.out; have := Z8.out; have := Q8.out; have := Z9.out; have := Z10.out; omega))
  clear wi zm
  have cs0 := BS.out.cell (j := 0) (v := .int .i64 c) rfl
  have cs1 := BS.out.cell (j := 1) (v := .slice sao N scap) rfl
  have cs2 := BS.out.cell (j := 2) (v := .int .i64 l) rfl
  have cg0 := BG.out.cell (j := 0) (v := .int .i64 c) rfl
  have cg1 := BG.out.cell (j := 1) (v := .slice gao N gcap) rfl
  have cg2 := BG.out.cell (j := 2) (v := .int .i64 l) rfl
  go_wp2_with fail
  refine (eqFlux_same OG.out.rdI OS.out.rdI hN2).mono ?_
  rintro e w11 ⟨rfl, b⟩
  replace OS : Hid (OwS 2 w1.heap.size w2.heap.size w11 (.slice sao N scap) N (fun i => .int .i64 (F i))) := OS.out.later b
  replace BS : Hid (Blk w11 w2.heap.size #[.int .i64 c, .slice sao N scap, .int .i64 l] 66) := BS.out.later b
  replace OG : Hid (OwS 2 w4.heap.size w5.heap.size w11 (.slice gao N gcap) N (fun i => .int .i64 (F i))) := OG.out.later b
  replace BG : Hid (Blk w11 w5.heap.size #[.int .i64 c, .slice gao N gcap, .int .i64 l] 66) := BG.out.later b
  have Z11 : Hid (w10.heap.size ≤ w11.heap.size) := b.size
  replace HO : Hid (Below w.heap.size w w11) := HO.out.trans (b.mono HO.out.size)
  clear b
  clear cs0 cs1 cs2 cg0 cg1 cg2
  have cg0 := BG.out.cell (j := 0) (v := .int .i64 c) rfl
  have cg1 := BG.out.cell (j := 1) (v := .slice gao N gcap) rfl
  have cg2 := BG.out.cell (j := 2) (v := .int .i64 l) rfl
  go_wp2_with fail
  refine (MK.out _ _ _ _ _ (by have := Z1.out; have := Q1.out; have := Z2.out; have := Y3.out; have := Z3.out; have := Z4.out; have := Q4.out; have := Z5.out; have := Y6.out; have := Z6.out; have := Z7.out; have := Z8.out; have := Q8.out; have := Z9.out; have := Z10.out; have := Z11.out; omega) OG.out).mono ?_
  rintro e w12 ⟨rfl, sm, wi, zm⟩
  have Z12 : Hid (w11.heap.size ≤ w12.heap.size) := zm
  replace OS : Hid (OwS 2 w1.heap.size w2.heap.size w12 (.slice sao N scap) N (fun i => .int .i64 (F i))) := OS.out.under wi (by have := Z1.out; have := Q1.out; have := Z2.out; have := Y3.out; have := Z3.out; have := Z4.out; have := Q4.out; have := Z5.out; have := Y6.out; have := Z6.out; have := Z7.out; have := Z8.out; have := Q8.out; have := Z9.out; have := Z10.out; have := Z11.out; have := Z12.out; omega)
  replace BS : Hid (Blk w12 w2.heap.size #[.int .i64 c, .slice sao N scap, .int .i64 l] 66) := BS.out.under wi (by have := Z1.out; have := Q1.out; have := Z2.out; have := Y3.out; have := Z3.out; have := Z4.out; have := Q4.out; have := Z5.out; have := Y6.out; have := Z6.out; have := Z7.out; have := Z8.out; have := Q8.out; have := Z9.out; have := Z10.out; have := Z11.out; have := Z12.out; omega)
  replace BG : Hid (Blk w12 w5.heap.size #[.int .i64 c, .slice gao N gcap, .int .i64 l] 66) := BG.out.under wi (by have := Z1.out; have := Q1.out; have := Z2.out; have := Y3.out; have := Z3.out; have := Z4.out; have := Q4.out; have := Z5.out; have := Y6.out; have := Z6.out; have := Z7.out; have := Z8.out; have := Q8.out; have := Z9.out; have := Z10.out; have := Z11.out; have := Z12.out; omega)
  replace OG : Hid (OwS 2 w4.heap.size w5.heap.size w12 (.slice gao N gcap) N (fun i => .int .i64 (1 + i))) := sm
  replace HO : Hid (Below w.heap.size w w12) := HO.out.trans (wi.below.mono (by have := Z1.out; have := Q1.out; have := Z2.out; have := Y3.out; have := Z3.out; have := Z4.out; have := Q4.out; have := Z5.out; have := Y6.out; have := Z6.out; have := Z7.out; have := Z8.out; have := Q8.out; have := Z9.out; have := Z10.out; have := Z11.out; have := Z12.out; omega))
  clear wi zm sm
  clear cg0 cg1 cg2
  have cg0 := BG.out.cell (j := 0) (v := .int .i64 c) rfl
  have cg1 := BG.out.cell (j := 1) (v := .slice gao N gcap) rfl
  have cg2 := BG.out.cell (j := 2) (v := .int .i64 l) rfl
  go_wp2_with fail
  refine (HL.out _ _ _ _ OG.out).mono ?_
  rintro e w13 ⟨rfl, b⟩
  replace OS : Hid (OwS 2 w1.heap.size w2.heap.size w13 (.slice sao N scap) N (fun i => .int .i64 (F i))) := OS.out.later b
  replace BS : Hid (Blk w13 w2.heap.size #[.int .i64 c, .slice sao N scap, .int .i64 l] 66) := BS.out.later b
  replace OG : Hid (OwS 2 w4.heap.size w5.heap.size w13 (.slice gao N gcap) N (fun i => .int .i64 (1 + i))) := OG.out.later b
  replace BG : Hid (Blk w13 w5.heap.size #[.int .i64 c, .slice gao N gcap, .int .i64 l] 66) := BG.out.later b
  have Z13 : Hid (w12.heap.size ≤ w13.heap.size) := b.size
  replace HO : Hid (Below w.heap.size w w13) := HO.out.trans (b.mono HO.out.size)
  clear b
  clear cg0 cg1 cg2
  go_wp2_with fail
  refine (toDos_any (H.out.later HO.out) hn3).mono ?_
  rintro e w14 ⟨rfl, sx, b⟩
  have SH : Hid (SegV w14 w13.heap.size 78 n 2 (fun i j => fcl (G i) j)) := sx
  clear sx
  replace OS : Hid (OwS 2 w1.heap.size w2.heap.size w14 (.slice sao N scap) N (fun i => .int .i64 (F i))) := OS.out.later b
  replace BS : Hid (Blk w14 w2.heap.size #[.int .i64 c, .slice sao N scap, .int .i64 l] 66) := BS.out.later b
  replace OG : Hid (OwS 2 w4.heap.size w5.heap.size w14 (.slice gao N gcap) N (fun i => .int .i64 (1 + i))) := OG.out.later b
  replace BG : Hid (Blk w14 w5.heap.size #[.int .i64 c, .slice gao N gcap, .int .i64 l] 66) := BG.out.later b
  have Z14 : Hid (w13.heap.size ≤ w14.heap.size) := b.size
  replace HO : Hid (Below w.heap.size w w14) := HO.out.trans (b.mono HO.out.size)
  clear b
  have Q14 : Hid (w13.heap.size + 1 ≤ w14.heap.size) := SH.out.lt
  go_wp2_with fail
  refine (IC.out _ _ SH.out).mono ?_
  rintro e w15 ⟨vh, rfl, oh, b⟩
  obtain ⟨hao, hcap, rfl⟩ := oh.form
  have OH : Hid (OwS 2 w14.heap.size w15.heap.size w15 (.slice hao N hcap) N (fun i => .int .i64 (F i))) := oh
  clear oh
  replace OS : Hid (OwS 2 w1.heap.size w2.heap.size w15 (.slice sao N scap) N (fun i => .int .i64 (F i))) := OS.out.later b
  replace BS : Hid (Blk w15 w2.heap.size #[.int .i64 c, .slice sao N scap, .int .i64 l] 66) := BS.out.later b
  replace OG : Hid (OwS 2 w4.heap.size w5.heap.size w15 (.slice gao N gcap) N (fun i => .int .i64 (1 + i))) := OG.out.later b
  replace BG : Hid (Blk w15 w5.heap.size #[.int .i64 c, .slice gao N gcap, .int .i64 l] 66) := BG.out.later b
  replace SH : Hid (SegV w15 w13.heap.size 78 n 2 (fun i j => fcl (G i) j)) := SH.out.later b
  have Z15 : Hid (w14.heap.size ≤ w15.heap.size) := b.size
  replace HO : Hid (Below w.heap.size w w15) := HO.out.trans (b.mono HO.out.size)
  clear b
  clear SH
  go_upto_region 25 with fail
  obtain ⟨w16, hwd⟩ : ∃ W, W = w15.alloc (.cells #[.int .i64 c, .slice hao N hcap, .int .i64 l] 66) := ⟨_, rfl⟩
  have BH : Hid (Blk w16 w15.heap.size #[.int .i64 c, .slice hao N hcap, .int .i64 l] 66) := by show Blk _ _ _ _; rw [hwd]; exact Blk.new rfl
  have b : Below w15.heap.size w15 w16 := by rw [hwd]; exact (Below.refl _ _).alloc (Nat.le_refl _) _
  have Y16 : Hid (w15.heap.size + 1 ≤ w16.heap.size) := by show _ ≤ _; rw [hwd]; simp
  rw [← hwd]
  clear hwd
  replace OS : Hid (OwS 2 w1.heap.size w2.heap.size w16 (.slice sao N scap) N (fun i => .int .i64 (F i))) := OS.out.later b
  replace BS : Hid (Blk w16 w2.heap.size #[.int .i64 c, .slice sao N scap, .int .i64 l] 66) := BS.out.later b
  replace OG : Hid (OwS 2 w4.heap.size w5.heap.size w16 (.slice gao N gcap) N (fun i => .int .i64 (1 + i))) := OG.out.later b
  replace BG : Hid (Blk w16 w5.heap.size #[.int .i64 c, .slice gao N gcap, .int .i64 l] 66) := BG.out.later b
  replace OH : Hid (OwS 2 w14.heap.size w15.heap.size w16 (.slice hao N hcap) N (fun i => .int .i64 (F i))) := OH.out.later b
  have Z16 : Hid (w15.heap.size ≤ w16.heap.size) := b.size
  replace HO : Hid (Below w.heap.size w w16) := HO.out.trans (b.mono HO.out.size)
  clear b
  have cs0 := BS.out.cell (j := 0) (v := .int .i64 c) rfl
  have cs1 := BS.out.cell (j := 1) (v := .slice sao N scap) rfl
  have cs2 := BS.out.cell (j := 2) (v := .int .i64 l) rfl
  have ch0 := BH.out.cell (j := 0) (v := .int .i64 c) rfl
  have ch1 := BH.out.cell (j := 1) (v := .slice hao N hcap) rfl
  have ch2 := BH.out.cell (j := 2) (v := .int .i64 l) rfl
  go_wp2_with fail
  refine (eqFlux_same OH.out.rdI OS.out.rdI hN2).mono ?_
  rintro e w17 ⟨rfl, b⟩
  replace OS : Hid (OwS 2 w1.heap.size w2.heap.size w17 (.slice sao N scap) N (fun i => .int .i64 (F i))) := OS.out.later b
  replace BS : Hid (Blk w17 w2.heap.size #[.int .i64 c, .slice sao N scap, .int .i64 l] 66) := BS.out.later b
  replace OG : Hid (OwS 2 w4.heap.size w5.heap.size w17 (.slice gao N gcap) N (fun i => .int .i64 (1 + i))) := OG.out.later b
  replace BG : Hid (Blk w17 w5.heap.size #[.int .i64 c, .slice gao N gcap, .int .i64 l] 66) := BG.out.later b
  replace OH : Hid (OwS 2 w14.heap.size w15.heap.size w17 (.slice hao N hcap) N (fun i => .int .i64 (F i))) := OH.out.later b
  replace BH : Hid (Blk w17 w15.heap.size #[.int .i64 c, .slice hao N hcap, .int .i64 l] 66) := BH.out.later b
  have Z17 : Hid (w16.heap.size ≤ w17.heap.size) := b.size
  replace HO : Hid (Below w.heap.size w w17) := HO.out.trans (b.mono HO.out.size)
  clear b
  clear cs0 cs1 cs2 ch0 ch1 ch2
  have cg0 := BG.out.cell (j := 0) (v := .int .i64 c) rfl
  have cg1 := BG.out.cell (j := 1) (v := .slice gao N gcap) rfl
  have cg2 := BG.out.cell (j := 2) (v := .int .i64 l) rfl
  go_wp2_with fail
  refine (HL.out _ _ _ _ OG.out).mono ?_
  rintro e w18 ⟨rfl, b⟩
  replace OS : Hid (OwS 2 w1.heap.size w2.heap.size w18 (.slice sao N scap) N (fun i => .int .i64 (F i))) := OS.out.later b
  replace BS : Hid (Blk w18 w2.heap.size #[.int .i64 c, .slice sao N scap, .int .i64 l] 66) := BS.out.later b
  replace OG : Hid (OwS 2 w4.heap.size w5.heap.size w18 (.slice gao N gcap) N (fun i => .int .i64 (1 + i))) := OG.out.later b
  replace BG : Hid (Blk w18 w5.heap.size #[.int .i64 c, .slice gao N gcap, .int .i64 l] 66) := BG.out.later b
  replace OH : Hid (OwS 2 w14.heap.size w15.heap.size w18 (.slice hao N hcap) N (fun i => .int .i64 (F i))) := OH.out.later b
  replace BH : Hid (Blk w18 w15.heap.size #[.int .i64 c, .slice hao N hcap, .int .i64 l] 66) := BH.out.later b
  have Z18 : Hid (w17.heap.size ≤ w18.heap.size) := b.size
  replace HO : Hid (Below w.heap.size w w18) := HO.out.trans (b.mono HO.out.size)
  clear b
  clear cg0 cg1 cg2
  go_wp2
  go_ret
  exact ⟨rfl, HO.out⟩

set_option maxRecDepth 100000 in
theorem lifted (os : Os) (started : os.Started) (H : Type) (enc : TypeId × Value → H) :
    ReturnsInHanded {} Try.checked os 8 .any (Rows.fnExactFluxBookSpec.pre6 enc Try.prog Try.f8 Rows.fnExactFluxBookRow.domain false) (Rows.fnExactFluxBookSpec.post enc Try.prog Try.f8 false true false false) := by
  refine returnsInHanded_of_change (C := Try.checked) own started (by kernel_rfl) Try.func8
    (ChangeSpec.witness6 (enc := enc) (C := Try.checked) false ⟨#[], #[.slice none 0 0, .int .i64 0, .float .f64 0], []⟩ 8 (by kernel_rfl) (by kernel_rfl) (by kernel_rfl) (by kernel_rfl)) ?_
  intro W base args ds gs before hval0 hW hcnd _
  have hval : ∀ (j : Nat) t v, Try.f8.params[j]? = some t → args[j]? = some v → Value.okWide Try.prog W .any base t v := hval0
  have hW' := hW
  obtain ⟨p, q, hA0, hV, rfl, hfz, hnd⟩ := hW
  have hA : DataW.TrodAll enc Try.prog W 0 (fun _ => true) true Try.f8.params.toList args.toList ds p := hA0
  rw [Try.params8] at hA hval
  obtain ⟨v0, vs0, d0, ds0, p0, q0, hargs, rfl, rfl, h0, r0⟩ := trodAll_cons hA
  obtain ⟨v1, vs1, d1, ds1, p1, q1, rfl, rfl, rfl, h1, r1⟩ := trodAll_cons r0
  obtain ⟨v2, vs2, d2, ds2, p2, q2, rfl, rfl, rfl, h2, r2⟩ := trodAll_cons r1
  obtain ⟨rfl, rfl, rfl⟩ := trodAll_nil r2
  obtain rfl : args = #[v0, v1, v2] := by cases args; simp_all
  obtain ⟨rfl, rfl⟩ := trodVars_none hV
  have k0 := h0
  have lt0 : ∀ x ∈ p0, x.block < W.heap.size := by obtain ⟨m, hm⟩ := k0; exact DataW.trod_lt m _ _ _ hm
  obtain ⟨n0, F0, R0, nb0, fb0⟩ := open_dots (hval 0 22 v0 rfl rfl) h0
  have k1 := h1
  have lt1 : ∀ x ∈ p1, x.block < W.heap.size := by obtain ⟨m, hm⟩ := k1; exact DataW.trod_lt m _ _ _ hm
  obtain ⟨n1, rfl, _, _, w1⟩ := open_int Try.underlying2 (hval 1 2 v1 rfl rfl) h1
  have k2 := h2
  have lt2 : ∀ x ∈ p2, x.block < W.heap.size := by obtain ⟨m, hm⟩ := k2; exact DataW.trod_lt m _ _ _ hm
  obtain ⟨a2, rfl, z2⟩ := open_flt (hval 2 24 v2 rfl rfl) h2
  clear hA0 hval0
  refine (walk R0 nb0 fb0 n1 z2).mono fun e W' ⟨he, bel⟩ => ?_
  subst he
  exact ⟨_, rfl, _, _, _, [], _, [], hW', trodAll_mk1 (shut_bool Try.underlying4 _), (trodAll_cons_mk (Below.trod laidOut (by kernel_rfl) (of_decide_eq_true (by kernel_rfl)) k0 bel lt0) (trodAll_cons_mk (Below.trod laidOut (by kernel_rfl) (of_decide_eq_true (by kernel_rfl)) k1 bel lt1) (trodAll_cons_mk (Below.trod laidOut (by kernel_rfl) (of_decide_eq_true (by kernel_rfl)) k2 bel lt2) trodAll_mk0))), rfl, bel.frame _, fun h => by cases h⟩

theorem over : Rows.fnExactFluxBookRow.holds Try.pinned (OpenSpec.ofChange Rows.fnExactFluxBookSpec) :=
  OpenClaim.holds_of_wide 8 Try.f8 rfl rfl rfl rfl rfl rfl rfl ⟨rfl, rfl, rfl, rfl, rfl⟩ rfl rfl rfl rfl rfl (by kernel_rfl) Try.func8 (by kernel_rfl)
    (of_decide_eq_true (by kernel_rfl)) (by unfold Func.isWrapper; first | (rw [if_pos (by decide +kernel)]; kernel_rfl) | (rw [if_neg (by decide +kernel)]; exact ⟨rfl, rfl⟩))
    (fun os started H enc _ => lifted os started H enc)
end Go.Proofs.Ytcmgafgboepllaa.LawFluxBook
namespace Go.Proofs.Ytcmgafgboepllaa
theorem fluxBook_holds : Rows.FnExactFluxBookSaid := LawFluxBook.over
#print axioms fluxBook_holds
end Go.Proofs.Ytcmgafgboepllaa
