/- At every field and every list of parts the program's PhaseField answers as the specification, all NaNs being one, in memory of its own that neither the arguments' marks nor a second call reach, where the law's own bounds on the lengths do not answer first; nothing that was there is changed. -/
import Derived.Test.YtgidoceflkdklaaPb
import Derived.Handy
import Derived.Deep.RegionHeld3
import Derived.Deep.DeepCutAuto
namespace Go.Proofs.Ytgidoceflkdklaa.LawPhaseField
open Go.ChangeShapes Go.WideShapes Go.ChangeAt Go.RowKit Go.Joins Fl
set_option linter.unusedVariables false

set_option maxRecDepth 100000 in
set_option maxHeartbeats 6400000 in
theorem walk {w : World} {v : Value} {n : Nat} {f : Nat → Nat → Nat} (h : RdM w v n 2 f) (hn : n ≤ 9223372036854775807) (hf : ∀ i, i < n → Zc (f i 0) (f i 1) (clZ f i)) {v' : Value} {m : Nat} {p : Nat → Int} (h' : RdRow w v' m p) (hm : m ≤ 9223372036854775807) (_ : True) :
    Calls Try.prog 6 #[v, v'] w fun e w' => e = .returned (.bool true) ∧ Below w.heap.size w w' := by
  obtain ⟨ao, cap, rfl⟩ := h.form
  obtain ⟨bo, cap', rfl⟩ := rd_form h'
  have HI : Hid (RdRow w (.slice bo m cap') m p) := h'
  clear h'
  have H : Hid (RdM w (.slice ao n cap) n 2 f) := h
  have HF : Hid (∀ i, i < n → Zc (f i 0) (f i 1) (clZ f i)) := hf
  clear h hf
  have SZ : Hid (∀ w, Calls Try.prog 19 #[.slice ao n cap, .int .i64 1048576] w fun e w' => e = .returned (.int .i64 (if 1048576 < n then -1 else 1048576 - n)) ∧ w = w') := fun w => sz28_any ao n cap w hn
  go_enter Try.func6, Try.ntmps6
  by_cases hmb : 1048576 < m
  · have hmI : (1048576 : Int) < m := by omega
    go_wp2
    go_ret
    exact ⟨rfl, Below.refl _ _⟩
  have hmI : ¬ (1048576 : Int) < m := by omega
  have hm2 : m ≤ 1000000000000 := by omega
  by_cases hb : 1048576 < n
  · rw [if_pos hb] at SZ
    have hbI : (1048576 : Int) < n := by omega
    go_wp2_with (first | (go_at_call 19; refine (SZ.out _).mono ?_; rintro e w1 ⟨rfl, rfl⟩))
    go_ret
    exact ⟨rfl, Below.refl _ _⟩
  rw [if_neg hb] at SZ
  have hbI : ¬ (1048576 : Int) < n := by omega
  have hn2 : n ≤ 1000000000000 := by omega
  obtain ⟨LF, hLF⟩ : ∃ L : Int, L = 1048576 - n := ⟨_, rfl⟩
  have hLF0 : ¬ LF < 0 := by omega
  rw [← hLF] at SZ
  clear hLF
  obtain ⟨c, N, O, hN, SC0, IC0⟩ := phase_both n m f (clZ f) p hn2 hm2 HF.out
  have SC : Hid (∀ W v v', RdM W v n 2 f → RdRow W v' m p → ZX 30 #[v, v'] W c N O) := SC0
  have IC : Hid (∀ W v v', RdM W v n 2 f → RdRow W v' m p → ZX 32 #[v, v'] W c N O) := IC0
  clear SC0 IC0
  have hN2 : N ≤ 1000000000000 := by omega
  obtain ⟨M, hM⟩ : ∃ M : Int, M = 1 + 2 * N := ⟨_, rfl⟩
  have hM0 : ¬ M < 0 := by omega
  have hM1 : M ≤ 10000 := by omega
  have MK : Hid (∀ (lo hi : Nat) (W : World) (v : Value) (f : Nat → Nat → Nat), lo ≤ W.heap.size → OwZ lo hi W v N f → Calls Try.prog 26 #[Zl c v, .int .i64 1] W fun e w' => e = .returned (.int .i64 M) ∧ OwZ lo hi w' v N (mz 1) ∧ Within lo hi W w' ∧ W.heap.size ≤ w'.heap.size) := fun lo hi W v f hl h => by rw [hM]; exact markZList_own h hl 1 (by omega) (by omega)
  have HL : Hid (∀ (lo hi : Nat) (W : World) (v : Value), OwZ lo hi W v N (mz 1) → Calls Try.prog 27 #[Zl c v, .int .i64 1] W fun e w' => e = .returned (.int .i64 M) ∧ Below W.heap.size W w') := fun lo hi W v h => by rw [hM]; exact heldZList_own h (by omega) (by omega)
  clear hM
  obtain ⟨K1, hK1⟩ : ∃ M : Int, M = 1 + 2 * n := ⟨_, rfl⟩
  obtain ⟨K2, hK2⟩ : ∃ M : Int, M = 1 + 2 * n + m := ⟨_, rfl⟩
  have hK20 : ¬ K2 < 0 := by omega
  have hK21 : K2 ≤ 10000000 := by omega
  have MZ : Hid (∀ (lo hi : Nat) (W : World) (v : Value) (f : Nat → Nat → Nat), OwZ lo hi W v n f → Calls Try.prog 25 #[v, .int .i64 1] W fun e w' => e = .returned (.int .i64 K1) ∧ OwZ lo hi w' v n (mz 1) ∧ Within lo hi W w' ∧ w'.heap.size = W.heap.size) := fun lo hi W v f h => by rw [hK1]; exact markZ_own h 1 (by omega) (by omega)
  have MI : Hid (∀ (lo hi : Nat) (W : World) (v : Value) (f : Nat → Int), OwS 2 lo hi W v m (fun i => .int .i64 (f i)) → Calls Try.prog 34 #[v, .int .i64 K1] W fun e w' => e = .returned (.int .i64 K2) ∧ OwS 2 lo hi w' v m (fun i => .int .i64 (K1 + i)) ∧ Within lo hi W w' ∧ w'.heap.size = W.heap.size) := fun lo hi W v f h => by rw [show K2 = K1 + m by omega]; exact markI_own h K1 (by omega) (by omega)
  clear hK1 hK2
  have HO : Hid (Below w.heap.size w w) := Below.refl _ _
  go_wp2_with fail
  refine (SZ.out _).mono ?_
  rintro e wx ⟨rfl, rfl⟩
  clear SZ
  go_wp2_with fail
  refine (to28_any (H.out.later HO.out) hn2).mono ?_
  rintro e w1 ⟨rfl, sx, b⟩
  have SA : Hid (OwZ w.heap.size w1.heap.size w1 (.slice (some ⟨w.heap.size, 0, none⟩) n n) n f) := Or.inr ⟨_, _, rfl, Nat.le_refl _, sx.lt, sx⟩
  clear sx
  have Z1 : Hid (w.heap.size ≤ w1.heap.size) := b.size
  replace HO : Hid (Below w.heap.size w w1) := HO.out.trans (b.mono HO.out.size)
  clear b
  go_wp2_with fail
  refine (toI_any (HI.out.later HO.out) hm2).mono ?_
  rintro e w2 ⟨rfl, sx, b, zx⟩
  have SB : Hid (OwS 2 w1.heap.size w2.heap.size w2 (.slice (some ⟨w1.heap.size, 0, none⟩) m m) m (fun i => .int .i64 (p i))) := Or.inr ⟨_, _, rfl, Nat.le_refl _, by omega, sx⟩
  clear sx zx
  replace SA : Hid (OwZ w.heap.size w1.heap.size w2 (.slice (some ⟨w.heap.size, 0, none⟩) n n) n f) := SA.out.later b
  have Z2 : Hid (w1.heap.size ≤ w2.heap.size) := b.size
  replace HO : Hid (Below w.heap.size w w2) := HO.out.trans (b.mono HO.out.size)
  clear b
  go_wp2_with fail
  refine (SC.out _ _ _ SA.out.rd SB.out.rdI).mono ?_
  rintro e w3 ⟨vs, Fs, rfl, os, cs, b⟩
  obtain ⟨sao, scap, rfl⟩ := os.form
  have OS : Hid (OwZ w2.heap.size w3.heap.size w3 (.slice sao N scap) N Fs) := os
  have COS : Hid (∀ i, i < N → Zc (Fs i 0) (Fs i 1) (O i)) := cs
  clear os cs
  replace SA : Hid (OwZ w.heap.size w1.heap.size w3 (.slice (some ⟨w.heap.size, 0, none⟩) n n) n f) := SA.out.later b
  replace SB : Hid (OwS 2 w1.heap.size w2.heap.size w3 (.slice (some ⟨w1.heap.size, 0, none⟩) m m) m (fun i => .int .i64 (p i))) := SB.out.later b
  have Z3 : Hid (w2.heap.size ≤ w3.heap.size) := b.size
  replace HO : Hid (Below w.heap.size w w3) := HO.out.trans (b.mono HO.out.size)
  clear b
  go_upto_region 8 with fail
  obtain ⟨w4, hwd⟩ : ∃ W, W = w3.alloc (.cells #[.int .i64 c, .slice sao N scap] 36) := ⟨_, rfl⟩
  have BS : Hid (Blk w4 w3.heap.size #[.int .i64 c, .slice sao N scap] 36) := by show Blk _ _ _ _; rw [hwd]; exact Blk.new rfl
  have b : Below w3.heap.size w3 w4 := by rw [hwd]; exact (Below.refl _ _).alloc (Nat.le_refl _) _
  have Y4 : Hid (w3.heap.size + 1 ≤ w4.heap.size) := by show _ ≤ _; rw [hwd]; simp
  rw [← hwd]
  clear hwd
  replace SA : Hid (OwZ w.heap.size w1.heap.size w4 (.slice (some ⟨w.heap.size, 0, none⟩) n n) n f) := SA.out.later b
  replace SB : Hid (OwS 2 w1.heap.size w2.heap.size w4 (.slice (some ⟨w1.heap.size, 0, none⟩) m m) m (fun i => .int .i64 (p i))) := SB.out.later b
  replace OS : Hid (OwZ w2.heap.size w3.heap.size w4 (.slice sao N scap) N Fs) := OS.out.later b
  have Z4 : Hid (w3.heap.size ≤ w4.heap.size) := b.size
  replace HO : Hid (Below w.heap.size w w4) := HO.out.trans (b.mono HO.out.size)
  clear b
  clear SA
  clear SB
  go_wp2_with fail
  refine (to28_any (H.out.later HO.out) hn2).mono ?_
  rintro e w5 ⟨rfl, sx, b⟩
  have SX : Hid (OwZ w4.heap.size w5.heap.size w5 (.slice (some ⟨w4.heap.size, 0, none⟩) n n) n f) := Or.inr ⟨_, _, rfl, Nat.le_refl _, sx.lt, sx⟩
  clear sx
  replace OS : Hid (OwZ w2.heap.size w3.heap.size w5 (.slice sao N scap) N Fs) := OS.out.later b
  replace BS : Hid (Blk w5 w3.heap.size #[.int .i64 c, .slice sao N scap] 36) := BS.out.later b
  have Z5 : Hid (w4.heap.size ≤ w5.heap.size) := b.size
  replace HO : Hid (Below w.heap.size w w5) := HO.out.trans (b.mono HO.out.size)
  clear b
  go_wp2_with fail
  refine (toI_any (HI.out.later HO.out) hm2).mono ?_
  rintro e w6 ⟨rfl, sx, b, zx⟩
  have SI : Hid (OwS 2 w5.heap.size w6.heap.size w6 (.slice (some ⟨w5.heap.size, 0, none⟩) m m) m (fun i => .int .i64 (p i))) := Or.inr ⟨_, _, rfl, Nat.le_refl _, by omega, sx⟩
  clear sx zx
  replace OS : Hid (OwZ w2.heap.size w3.heap.size w6 (.slice sao N scap) N Fs) := OS.out.later b
  replace BS : Hid (Blk w6 w3.heap.size #[.int .i64 c, .slice sao N scap] 36) := BS.out.later b
  replace SX : Hid (OwZ w4.heap.size w5.heap.size w6 (.slice (some ⟨w4.heap.size, 0, none⟩) n n) n f) := SX.out.later b
  have Z6 : Hid (w5.heap.size ≤ w6.heap.size) := b.size
  replace HO : Hid (Below w.heap.size w w6) := HO.out.trans (b.mono HO.out.size)
  clear b
  go_wp2_with fail
  refine (IC.out _ _ _ SX.out.rd SI.out.rdI).mono ?_
  rintro e w7 ⟨vg, Fg, rfl, og, cg, b⟩
  obtain ⟨gao, gcap, rfl⟩ := og.form
  have OG : Hid (OwZ w6.heap.size w7.heap.size w7 (.slice gao N gcap) N Fg) := og
  have COG : Hid (∀ i, i < N → Zc (Fg i 0) (Fg i 1) (O i)) := cg
  clear og cg
  replace OS : Hid (OwZ w2.heap.size w3.heap.size w7 (.slice sao N scap) N Fs) := OS.out.later b
  replace BS : Hid (Blk w7 w3.heap.size #[.int .i64 c, .slice sao N scap] 36) := BS.out.later b
  replace SX : Hid (OwZ w4.heap.size w5.heap.size w7 (.slice (some ⟨w4.heap.size, 0, none⟩) n n) n f) := SX.out.later b
  replace SI : Hid (OwS 2 w5.heap.size w6.heap.size w7 (.slice (some ⟨w5.heap.size, 0, none⟩) m m) m (fun i => .int .i64 (p i))) := SI.out.later b
  have Z7 : Hid (w6.heap.size ≤ w7.heap.size) := b.size
  replace HO : Hid (Below w.heap.size w w7) := HO.out.trans (b.mono HO.out.size)
  clear b
  go_upto_region 11 with fail
  obtain ⟨w8, hwd⟩ : ∃ W, W = w7.alloc (.cells #[.int .i64 c, .slice gao N gcap] 36) := ⟨_, rfl⟩
  have BG : Hid (Blk w8 w7.heap.size #[.int .i64 c, .slice gao N gcap] 36) := by show Blk _ _ _ _; rw [hwd]; exact Blk.new rfl
  have b : Below w7.heap.size w7 w8 := by rw [hwd]; exact (Below.refl _ _).alloc (Nat.le_refl _) _
  have Y8 : Hid (w7.heap.size + 1 ≤ w8.heap.size) := by show _ ≤ _; rw [hwd]; simp
  rw [← hwd]
  clear hwd
  replace OS : Hid (OwZ w2.heap.size w3.heap.size w8 (.slice sao N scap) N Fs) := OS.out.later b
  replace BS : Hid (Blk w8 w3.heap.size #[.int .i64 c, .slice sao N scap] 36) := BS.out.later b
  replace SX : Hid (OwZ w4.heap.size w5.heap.size w8 (.slice (some ⟨w4.heap.size, 0, none⟩) n n) n f) := SX.out.later b
  replace SI : Hid (OwS 2 w5.heap.size w6.heap.size w8 (.slice (some ⟨w5.heap.size, 0, none⟩) m m) m (fun i => .int .i64 (p i))) := SI.out.later b
  replace OG : Hid (OwZ w6.heap.size w7.heap.size w8 (.slice gao N gcap) N Fg) := OG.out.later b
  have Z8 : Hid (w7.heap.size ≤ w8.heap.size) := b.size
  replace HO : Hid (Below w.heap.size w w8) := HO.out.trans (b.mono HO.out.size)
  clear b
  have ca0 := BG.out.cell (j := 0) (v := .int .i64 c) rfl
  have ca1 := BG.out.cell (j := 1) (v := .slice gao N gcap) rfl
  have cb0 := BS.out.cell (j := 0) (v := .int .i64 c) rfl
  have cb1 := BS.out.cell (j := 1) (v := .slice sao N scap) rfl
  go_wp2_with fail
  refine (eqZList_same OG.out.rd OS.out.rd hN2 COG.out COS.out).mono ?_
  rintro e w9 ⟨rfl, b⟩
  replace OS : Hid (OwZ w2.heap.size w3.heap.size w9 (.slice sao N scap) N Fs) := OS.out.later b
  replace BS : Hid (Blk w9 w3.heap.size #[.int .i64 c, .slice sao N scap] 36) := BS.out.later b
  replace SX : Hid (OwZ w4.heap.size w5.heap.size w9 (.slice (some ⟨w4.heap.size, 0, none⟩) n n) n f) := SX.out.later b
  replace SI : Hid (OwS 2 w5.heap.size w6.heap.size w9 (.slice (some ⟨w5.heap.size, 0, none⟩) m m) m (fun i => .int .i64 (p i))) := SI.out.later b
  replace OG : Hid (OwZ w6.heap.size w7.heap.size w9 (.slice gao N gcap) N Fg) := OG.out.later b
  replace BG : Hid (Blk w9 w7.heap.size #[.int .i64 c, .slice gao N gcap] 36) := BG.out.later b
  have Z9 : Hid (w8.heap.size ≤ w9.heap.size) := b.size
  replace HO : Hid (Below w.heap.size w w9) := HO.out.trans (b.mono HO.out.size)
  clear b
  clear ca0 ca1 cb0 cb1
  go_wp2_with fail
  refine (to28_any (H.out.later HO.out) hn2).mono ?_
  rintro e w10 ⟨rfl, sx, b⟩
  have SY : Hid (OwZ w9.heap.size w10.heap.size w10 (.slice (some ⟨w9.heap.size, 0, none⟩) n n) n f) := Or.inr ⟨_, _, rfl, Nat.le_refl _, sx.lt, sx⟩
  clear sx
  replace OS : Hid (OwZ w2.heap.size w3.heap.size w10 (.slice sao N scap) N Fs) := OS.out.later b
  replace BS : Hid (Blk w10 w3.heap.size #[.int .i64 c, .slice sao N scap] 36) := BS.out.later b
  replace SX : Hid (OwZ w4.heap.size w5.heap.size w10 (.slice (some ⟨w4.heap.size, 0, none⟩) n n) n f) := SX.out.later b
  replace SI : Hid (OwS 2 w5.heap.size w6.heap.size w10 (.slice (some ⟨w5.heap.size, 0, none⟩) m m) m (fun i => .int .i64 (p i))) := SI.out.later b
  replace OG : Hid (OwZ w6.heap.size w7.heap.size w10 (.slice gao N gcap) N Fg) := OG.out.later b
  replace BG : Hid (Blk w10 w7.heap.size #[.int .i64 c, .slice gao N gcap] 36) := BG.out.later b
  have Z10 : Hid (w9.heap.size ≤ w10.heap.size) := b.size
  replace HO : Hid (Below w.heap.size w w10) := HO.out.trans (b.mono HO.out.size)
  clear b
  go_wp2_with fail
  refine (eqZS_any SX.out.rd SY.out.rd hn2 HF.out HF.out).mono ?_
  rintro e w11 ⟨rfl, b⟩
  replace OS : Hid (OwZ w2.heap.size w3.heap.size w11 (.slice sao N scap) N Fs) := OS.out.later b
  replace BS : Hid (Blk w11 w3.heap.size #[.int .i64 c, .slice sao N scap] 36) := BS.out.later b
  replace SX : Hid (OwZ w4.heap.size w5.heap.size w11 (.slice (some ⟨w4.heap.size, 0, none⟩) n n) n f) := SX.out.later b
  replace SI : Hid (OwS 2 w5.heap.size w6.heap.size w11 (.slice (some ⟨w5.heap.size, 0, none⟩) m m) m (fun i => .int .i64 (p i))) := SI.out.later b
  replace OG : Hid (OwZ w6.heap.size w7.heap.size w11 (.slice gao N gcap) N Fg) := OG.out.later b
  replace BG : Hid (Blk w11 w7.heap.size #[.int .i64 c, .slice gao N gcap] 36) := BG.out.later b
  replace SY : Hid (OwZ w9.heap.size w10.heap.size w11 (.slice (some ⟨w9.heap.size, 0, none⟩) n n) n f) := SY.out.later b
  have Z11 : Hid (w10.heap.size ≤ w11.heap.size) := b.size
  replace HO : Hid (Below w.heap.size w w11) := HO.out.trans (b.mono HO.out.size)
  clear b
  clear SY
  go_wp2_with fail
  refine (toI_any (HI.out.later HO.out) hm2).mono ?_
  rintro e w12 ⟨rfl, sx, b, zx⟩
  have SJ : Hid (OwS 2 w11.heap.size w12.heap.size w12 (.slice (some ⟨w11.heap.size, 0, none⟩) m m) m (fun i => .int .i64 (p i))) := Or.inr ⟨_, _, rfl, Nat.le_refl _, by omega, sx⟩
  clear sx zx
  replace OS : Hid (OwZ w2.heap.size w3.heap.size w12 (.slice sao N scap) N Fs) := OS.out.later b
  replace BS : Hid (Blk w12 w3.heap.size #[.int .i64 c, .slice sao N scap] 36) := BS.out.later b
  replace SX : Hid (OwZ w4.heap.size w5.heap.size w12 (.slice (some ⟨w4.heap.size, 0, none⟩) n n) n f) := SX.out.later b
  replace SI : Hid (OwS 2 w5.heap.size w6.heap.size w12 (.slice (some ⟨w5.heap.size, 0, none⟩) m m) m (fun i => .int .i64 (p i))) := SI.out.later b
  replace OG : Hid (OwZ w6.heap.size w7.heap.size w12 (.slice gao N gcap) N Fg) := OG.out.later b
  replace BG : Hid (Blk w12 w7.heap.size #[.int .i64 c, .slice gao N gcap] 36) := BG.out.later b
  have Z12 : Hid (w11.heap.size ≤ w12.heap.size) := b.size
  replace HO : Hid (Below w.heap.size w w12) := HO.out.trans (b.mono HO.out.size)
  clear b
  go_wp2_with fail
  refine ((eqI_any SI.out.rdI SJ.out.rdI hm2).mono fun _ _ h => drew_below h).mono ?_
  rintro e w13 ⟨rfl, b⟩
  replace OS : Hid (OwZ w2.heap.size w3.heap.size w13 (.slice sao N scap) N Fs) := OS.out.later b
  replace BS : Hid (Blk w13 w3.heap.size #[.int .i64 c, .slice sao N scap] 36) := BS.out.later b
  replace SX : Hid (OwZ w4.heap.size w5.heap.size w13 (.slice (some ⟨w4.heap.size, 0, none⟩) n n) n f) := SX.out.later b
  replace SI : Hid (OwS 2 w5.heap.size w6.heap.size w13 (.slice (some ⟨w5.heap.size, 0, none⟩) m m) m (fun i => .int .i64 (p i))) := SI.out.later b
  replace OG : Hid (OwZ w6.heap.size w7.heap.size w13 (.slice gao N gcap) N Fg) := OG.out.later b
  replace BG : Hid (Blk w13 w7.heap.size #[.int .i64 c, .slice gao N gcap] 36) := BG.out.later b
  replace SJ : Hid (OwS 2 w11.heap.size w12.heap.size w13 (.slice (some ⟨w11.heap.size, 0, none⟩) m m) m (fun i => .int .i64 (p i))) := SJ.out.later b
  have Z13 : Hid (w12.heap.size ≤ w13.heap.size) := b.size
  replace HO : Hid (Below w.heap.size w w13) := HO.out.trans (b.mono HO.out.size)
  clear b
  clear SJ
  go_wp2_with fail
  refine (MZ.out _ _ _ _ _ SX.out).mono ?_
  rintro e w14 ⟨rfl, sm, wi, zm⟩
  have Z14 : Hid (w13.heap.size ≤ w14.heap.size) := Nat.le_of_eq zm.symm
  replace OS : Hid (OwZ w2.heap.size w3.heap.size w14 (.slice sao N scap) N Fs) := OS.out.under wi (by have := Z1.out; have := Z2.out; have := Z3.out; have := Y4.out; have := Z4.out; have := Z5.out; have := Z6.out; have := Z7.out; have := Y8.out; have := Z8.out; have := Z9.out; have := Z10.out; have := Z11.out; have := Z12.out; have := Z13.out; have := Z14.out; omega)
  replace BS : Hid (Blk w14 w3.heap.size #[.int .i64 c, .slice sao N scap] 36) := BS.out.under wi (by have := Z1.out; have := Z2.out; have := Z3.out; have := Y4.out; have := Z4.out; have := Z5.out; have := Z6.out; have := Z7.out; have := Y8.out; have := Z8.out; have := Z9.out; have := Z10.out; have := Z11.out; have := Z12.out; have := Z13.out; have := Z14.out; omega)
  replace SI : Hid (OwS 2 w5.heap.size w6.heap.size w14 (.slice (some ⟨w5.heap.size, 0, none⟩) m m) m (fun i => .int .i64 (p i))) := SI.out.under wi (by have := Z1.out; have := Z2.out; have := Z3.out; have := Y4.out; have := Z4.out; have := Z5.out; have := Z6.out; have := Z7.out; have := Y8.out; have := Z8.out; have := Z9.out; have := Z10.out; have := Z11.out; have := Z12.out; have := Z13.out; have := Z14.out; omega)
  replace OG : Hid (OwZ w6.heap.size w7.heap.size w14 (.slice gao N gcap) N Fg) := OG.out.under wi (by have := Z1.out; have := Z2.out; have := Z3.out; have := Y4.out; have := Z4.out; have := Z5.out; have := Z6.out; have := Z7.out; have := Y8.out; have := Z8.out; have := Z9.out; have := Z10.out; have := Z11.out; have := Z12.out; have := Z13.out; have := Z14.out; omega)
  replace BG : Hid (Blk w14 w7.heap.size #[.int .i64 c, .slice gao N gcap] 36) := BG.out.under wi (by have := Z1.out; have := Z2.out; have := Z3.out; have := Y4.out; have := Z4.out; have := Z5.out; have := Z6.out; have := Z7.out; have := Y8.out; have := Z8.out; have := Z9.out; have := Z10.out; have := Z11.out; have := Z12.out; have := Z13.out; have := Z14.out; omega)
  clear SX sm
  replace HO : Hid (Below w.heap.size w w14) := HO.out.trans (wi.below.mono (by have := Z1.out; have := Z2.out; have := Z3.out; have := Y4.out; have := Z4.out; have := Z5.out; have := Z6.out; have := Z7.out; have := Y8.out; have := Z8.out; have := Z9.out; have := Z10.out; have := Z11.out; have := Z12.out; have := Z13.out; have := Z14.out; omega))
  clear wi zm
  go_wp2_with fail
  refine (MI.out _ _ _ _ _ SI.out).mono ?_
  rintro e w15 ⟨rfl, sm, wi, zm⟩
  have Z15 : Hid (w14.heap.size ≤ w15.heap.size) := Nat.le_of_eq zm.symm
  replace OS : Hid (OwZ w2.heap.size w3.heap.size w15 (.slice sao N scap) N Fs) := OS.out.under wi (by have := Z1.out; have := Z2.out; have := Z3.out; have := Y4.out; have := Z4.out; have := Z5.out; have := Z6.out; have := Z7.out; have := Y8.out; have := Z8.out; have := Z9.out; have := Z10.out; have := Z11.out; have := Z12.out; have := Z13.out; have := Z14.out; have := Z15.out; omega)
  replace BS : Hid (Blk w15 w3.heap.size #[.int .i64 c, .slice sao N scap] 36) := BS.out.under wi (by have := Z1.out; have := Z2.out; have := Z3.out; have := Y4.out; have := Z4.out; have := Z5.out; have := Z6.out; have := Z7.out; have := Y8.out; have := Z8.out; have := Z9.out; have := Z10.out; have := Z11.out; have := Z12.out; have := Z13.out; have := Z14.out; have := Z15.out; omega)
  replace OG : Hid (OwZ w6.heap.size w7.heap.size w15 (.slice gao N gcap) N Fg) := OG.out.under wi (by have := Z1.out; have := Z2.out; have := Z3.out; have := Y4.out; have := Z4.out; have := Z5.out; have := Z6.out; have := Z7.out; have := Y8.out; have := Z8.out; have := Z9.out; have := Z10.out; have := Z11.out; have := Z12.out; have := Z13.out; have := Z14.out; have := Z15.out; omega)
  replace BG : Hid (Blk w15 w7.heap.size #[.int .i64 c, .slice gao N gcap] 36) := BG.out.under wi (by have := Z1.out; have := Z2.out; have := Z3.out; have := Y4.out; have := Z4.out; have := Z5.out; have := Z6.out; have := Z7.out; have := Y8.out; have := Z8.out; have := Z9.out; have := Z10.out; have := Z11.out; have := Z12.out; have := Z13.out; have := Z14.out; have := Z15.out; omega)
  clear SI sm
  replace HO : Hid (Below w.heap.size w w15) := HO.out.trans (wi.below.mono (by have := Z1.out; have := Z2.out; have := Z3.out; have := Y4.out; have := Z4.out; have := Z5.out; have := Z6.out; have := Z7.out; have := Y8.out; have := Z8.out; have := Z9.out; have := Z10.out; have := Z11.out; have := Z12.out; have := Z13.out; have := Z14.out; have := Z15.out; omega))
  clear wi zm
  have ca0 := BG.out.cell (j := 0) (v := .int .i64 c) rfl
  have ca1 := BG.out.cell (j := 1) (v := .slice gao N gcap) rfl
  have cb0 := BS.out.cell (j := 0) (v := .int .i64 c) rfl
  have cb1 := BS.out.cell (j := 1) (v := .slice sao N scap) rfl
  go_wp2_with fail
  refine (eqZList_same OG.out.rd OS.out.rd hN2 COG.out COS.out).mono ?_
  rintro e w16 ⟨rfl, b⟩
  replace OS : Hid (OwZ w2.heap.size w3.heap.size w16 (.slice sao N scap) N Fs) := OS.out.later b
  replace BS : Hid (Blk w16 w3.heap.size #[.int .i64 c, .slice sao N scap] 36) := BS.out.later b
  replace OG : Hid (OwZ w6.heap.size w7.heap.size w16 (.slice gao N gcap) N Fg) := OG.out.later b
  replace BG : Hid (Blk w16 w7.heap.size #[.int .i64 c, .slice gao N gcap] 36) := BG.out.later b
  have Z16 : Hid (w15.heap.size ≤ w16.heap.size) := b.size
  replace HO : Hid (Below w.heap.size w w16) := HO.out.trans (b.mono HO.out.size)
  clear b
  clear ca0 ca1 cb0 cb1
  have cg0 := BG.out.cell (j := 0) (v := .int .i64 c) rfl
  have cg1 := BG.out.cell (j := 1) (v := .slice gao N gcap) rfl
  go_wp2_with fail
  refine (MK.out _ _ _ _ _ (by have := Z1.out; have := Z2.out; have := Z3.out; have := Y4.out; have := Z4.out; have := Z5.out; have := Z6.out; have := Z7.out; have := Y8.out; have := Z8.out; have := Z9.out; have := Z10.out; have := Z11.out; have := Z12.out; have := Z13.out; have := Z14.out; have := Z15.out; have := Z16.out; omega) OG.out).mono ?_
  rintro e w17 ⟨rfl, sm, wi, zm⟩
  have Z17 : Hid (w16.heap.size ≤ w17.heap.size) := zm
  replace OS : Hid (OwZ w2.heap.size w3.heap.size w17 (.slice sao N scap) N Fs) := OS.out.under wi (by have := Z1.out; have := Z2.out; have := Z3.out; have := Y4.out; have := Z4.out; have := Z5.out; have := Z6.out; have := Z7.out; have := Y8.out; have := Z8.out; have := Z9.out; have := Z10.out; have := Z11.out; have := Z12.out; have := Z13.out; have := Z14.out; have := Z15.out; have := Z16.out; have := Z17.out; omega)
  replace BS : Hid (Blk w17 w3.heap.size #[.int .i64 c, .slice sao N scap] 36) := BS.out.under wi (by have := Z1.out; have := Z2.out; have := Z3.out; have := Y4.out; have := Z4.out; have := Z5.out; have := Z6.out; have := Z7.out; have := Y8.out; have := Z8.out; have := Z9.out; have := Z10.out; have := Z11.out; have := Z12.out; have := Z13.out; have := Z14.out; have := Z15.out; have := Z16.out; have := Z17.out; omega)
  replace BG : Hid (Blk w17 w7.heap.size #[.int .i64 c, .slice gao N gcap] 36) := BG.out.under wi (by have := Z1.out; have := Z2.out; have := Z3.out; have := Y4.out; have := Z4.out; have := Z5.out; have := Z6.out; have := Z7.out; have := Y8.out; have := Z8.out; have := Z9.out; have := Z10.out; have := Z11.out; have := Z12.out; have := Z13.out; have := Z14.out; have := Z15.out; have := Z16.out; have := Z17.out; omega)
  replace OG : Hid (OwZ w6.heap.size w7.heap.size w17 (.slice gao N gcap) N (mz 1)) := sm
  replace HO : Hid (Below w.heap.size w w17) := HO.out.trans (wi.below.mono (by have := Z1.out; have := Z2.out; have := Z3.out; have := Y4.out; have := Z4.out; have := Z5.out; have := Z6.out; have := Z7.out; have := Y8.out; have := Z8.out; have := Z9.out; have := Z10.out; have := Z11.out; have := Z12.out; have := Z13.out; have := Z14.out; have := Z15.out; have := Z16.out; have := Z17.out; omega))
  clear wi zm sm
  clear cg0 cg1
  clear COG
  have cg0 := BG.out.cell (j := 0) (v := .int .i64 c) rfl
  have cg1 := BG.out.cell (j := 1) (v := .slice gao N gcap) rfl
  go_wp2_with fail
  refine (HL.out _ _ _ _ OG.out).mono ?_
  rintro e w18 ⟨rfl, b⟩
  replace OS : Hid (OwZ w2.heap.size w3.heap.size w18 (.slice sao N scap) N Fs) := OS.out.later b
  replace BS : Hid (Blk w18 w3.heap.size #[.int .i64 c, .slice sao N scap] 36) := BS.out.later b
  replace OG : Hid (OwZ w6.heap.size w7.heap.size w18 (.slice gao N gcap) N (mz 1)) := OG.out.later b
  replace BG : Hid (Blk w18 w7.heap.size #[.int .i64 c, .slice gao N gcap] 36) := BG.out.later b
  have Z18 : Hid (w17.heap.size ≤ w18.heap.size) := b.size
  replace HO : Hid (Below w.heap.size w w18) := HO.out.trans (b.mono HO.out.size)
  clear b
  clear cg0 cg1
  go_wp2_with fail
  refine (to28_any (H.out.later HO.out) hn2).mono ?_
  rintro e w19 ⟨rfl, sx, b⟩
  have SH : Hid (OwZ w18.heap.size w19.heap.size w19 (.slice (some ⟨w18.heap.size, 0, none⟩) n n) n f) := Or.inr ⟨_, _, rfl, Nat.le_refl _, sx.lt, sx⟩
  clear sx
  replace OS : Hid (OwZ w2.heap.size w3.heap.size w19 (.slice sao N scap) N Fs) := OS.out.later b
  replace BS : Hid (Blk w19 w3.heap.size #[.int .i64 c, .slice sao N scap] 36) := BS.out.later b
  replace OG : Hid (OwZ w6.heap.size w7.heap.size w19 (.slice gao N gcap) N (mz 1)) := OG.out.later b
  replace BG : Hid (Blk w19 w7.heap.size #[.int .i64 c, .slice gao N gcap] 36) := BG.out.later b
  have Z19 : Hid (w18.heap.size ≤ w19.heap.size) := b.size
  replace HO : Hid (Below w.heap.size w w19) := HO.out.trans (b.mono HO.out.size)
  clear b
  go_wp2_with fail
  refine (toI_any (HI.out.later HO.out) hm2).mono ?_
  rintro e w20 ⟨rfl, sx, b, zx⟩
  have SK : Hid (OwS 2 w19.heap.size w20.heap.size w20 (.slice (some ⟨w19.heap.size, 0, none⟩) m m) m (fun i => .int .i64 (p i))) := Or.inr ⟨_, _, rfl, Nat.le_refl _, by omega, sx⟩
  clear sx zx
  replace OS : Hid (OwZ w2.heap.size w3.heap.size w20 (.slice sao N scap) N Fs) := OS.out.later b
  replace BS : Hid (Blk w20 w3.heap.size #[.int .i64 c, .slice sao N scap] 36) := BS.out.later b
  replace OG : Hid (OwZ w6.heap.size w7.heap.size w20 (.slice gao N gcap) N (mz 1)) := OG.out.later b
  replace BG : Hid (Blk w20 w7.heap.size #[.int .i64 c, .slice gao N gcap] 36) := BG.out.later b
  replace SH : Hid (OwZ w18.heap.size w19.heap.size w20 (.slice (some ⟨w18.heap.size, 0, none⟩) n n) n f) := SH.out.later b
  have Z20 : Hid (w19.heap.size ≤ w20.heap.size) := b.size
  replace HO : Hid (Below w.heap.size w w20) := HO.out.trans (b.mono HO.out.size)
  clear b
  go_wp2_with fail
  refine (IC.out _ _ _ SH.out.rd SK.out.rdI).mono ?_
  rintro e w21 ⟨vh, Fh, rfl, oh, ch, b⟩
  obtain ⟨hao, hcap, rfl⟩ := oh.form
  have OH : Hid (OwZ w20.heap.size w21.heap.size w21 (.slice hao N hcap) N Fh) := oh
  have COH : Hid (∀ i, i < N → Zc (Fh i 0) (Fh i 1) (O i)) := ch
  clear oh ch
  replace OS : Hid (OwZ w2.heap.size w3.heap.size w21 (.slice sao N scap) N Fs) := OS.out.later b
  replace BS : Hid (Blk w21 w3.heap.size #[.int .i64 c, .slice sao N scap] 36) := BS.out.later b
  replace OG : Hid (OwZ w6.heap.size w7.heap.size w21 (.slice gao N gcap) N (mz 1)) := OG.out.later b
  replace BG : Hid (Blk w21 w7.heap.size #[.int .i64 c, .slice gao N gcap] 36) := BG.out.later b
  replace SH : Hid (OwZ w18.heap.size w19.heap.size w21 (.slice (some ⟨w18.heap.size, 0, none⟩) n n) n f) := SH.out.later b
  replace SK : Hid (OwS 2 w19.heap.size w20.heap.size w21 (.slice (some ⟨w19.heap.size, 0, none⟩) m m) m (fun i => .int .i64 (p i))) := SK.out.later b
  have Z21 : Hid (w20.heap.size ≤ w21.heap.size) := b.size
  replace HO : Hid (Below w.heap.size w w21) := HO.out.trans (b.mono HO.out.size)
  clear b
  go_upto_region 31 with fail
  obtain ⟨w22, hwd⟩ : ∃ W, W = w21.alloc (.cells #[.int .i64 c, .slice hao N hcap] 36) := ⟨_, rfl⟩
  have BH : Hid (Blk w22 w21.heap.size #[.int .i64 c, .slice hao N hcap] 36) := by show Blk _ _ _ _; rw [hwd]; exact Blk.new rfl
  have b : Below w21.heap.size w21 w22 := by rw [hwd]; exact (Below.refl _ _).alloc (Nat.le_refl _) _
  have Y22 : Hid (w21.heap.size + 1 ≤ w22.heap.size) := by show _ ≤ _; rw [hwd]; simp
  rw [← hwd]
  clear hwd
  replace OS : Hid (OwZ w2.heap.size w3.heap.size w22 (.slice sao N scap) N Fs) := OS.out.later b
  replace BS : Hid (Blk w22 w3.heap.size #[.int .i64 c, .slice sao N scap] 36) := BS.out.later b
  replace OG : Hid (OwZ w6.heap.size w7.heap.size w22 (.slice gao N gcap) N (mz 1)) := OG.out.later b
  replace BG : Hid (Blk w22 w7.heap.size #[.int .i64 c, .slice gao N gcap] 36) := BG.out.later b
  replace SH : Hid (OwZ w18.heap.size w19.heap.size w22 (.slice (some ⟨w18.heap.size, 0, none⟩) n n) n f) := SH.out.later b
  replace SK : Hid (OwS 2 w19.heap.size w20.heap.size w22 (.slice (some ⟨w19.heap.size, 0, none⟩) m m) m (fun i => .int .i64 (p i))) := SK.out.later b
  replace OH : Hid (OwZ w20.heap.size w21.heap.size w22 (.slice hao N hcap) N Fh) := OH.out.later b
  have Z22 : Hid (w21.heap.size ≤ w22.heap.size) := b.size
  replace HO : Hid (Below w.heap.size w w22) := HO.out.trans (b.mono HO.out.size)
  clear b
  clear SH
  clear SK
  have ca0 := BH.out.cell (j := 0) (v := .int .i64 c) rfl
  have ca1 := BH.out.cell (j := 1) (v := .slice hao N hcap) rfl
  have cb0 := BS.out.cell (j := 0) (v := .int .i64 c) rfl
  have cb1 := BS.out.cell (j := 1) (v := .slice sao N scap) rfl
  go_wp2_with fail
  refine (eqZList_same OH.out.rd OS.out.rd hN2 COH.out COS.out).mono ?_
  rintro e w23 ⟨rfl, b⟩
  replace OS : Hid (OwZ w2.heap.size w3.heap.size w23 (.slice sao N scap) N Fs) := OS.out.later b
  replace BS : Hid (Blk w23 w3.heap.size #[.int .i64 c, .slice sao N scap] 36) := BS.out.later b
  replace OG : Hid (OwZ w6.heap.size w7.heap.size w23 (.slice gao N gcap) N (mz 1)) := OG.out.later b
  replace BG : Hid (Blk w23 w7.heap.size #[.int .i64 c, .slice gao N gcap] 36) := BG.out.later b
  replace OH : Hid (OwZ w20.heap.size w21.heap.size w23 (.slice hao N hcap) N Fh) := OH.out.later b
  replace BH : Hid (Blk w23 w21.heap.size #[.int .i64 c, .slice hao N hcap] 36) := BH.out.later b
  have Z23 : Hid (w22.heap.size ≤ w23.heap.size) := b.size
  replace HO : Hid (Below w.heap.size w w23) := HO.out.trans (b.mono HO.out.size)
  clear b
  clear ca0 ca1 cb0 cb1
  have cg0 := BG.out.cell (j := 0) (v := .int .i64 c) rfl
  have cg1 := BG.out.cell (j := 1) (v := .slice gao N gcap) rfl
  go_wp2_with fail
  refine (HL.out _ _ _ _ OG.out).mono ?_
  rintro e w24 ⟨rfl, b⟩
  replace OS : Hid (OwZ w2.heap.size w3.heap.size w24 (.slice sao N scap) N Fs) := OS.out.later b
  replace BS : Hid (Blk w24 w3.heap.size #[.int .i64 c, .slice sao N scap] 36) := BS.out.later b
  replace OG : Hid (OwZ w6.heap.size w7.heap.size w24 (.slice gao N gcap) N (mz 1)) := OG.out.later b
  replace BG : Hid (Blk w24 w7.heap.size #[.int .i64 c, .slice gao N gcap] 36) := BG.out.later b
  replace OH : Hid (OwZ w20.heap.size w21.heap.size w24 (.slice hao N hcap) N Fh) := OH.out.later b
  replace BH : Hid (Blk w24 w21.heap.size #[.int .i64 c, .slice hao N hcap] 36) := BH.out.later b
  have Z24 : Hid (w23.heap.size ≤ w24.heap.size) := b.size
  replace HO : Hid (Below w.heap.size w w24) := HO.out.trans (b.mono HO.out.size)
  clear b
  clear cg0 cg1
  go_wp2
  go_ret
  exact ⟨rfl, HO.out⟩

set_option maxRecDepth 100000 in
theorem lifted (os : Os) (started : os.Started) (H : Type) (enc : TypeId × Value → H) :
    ReturnsInHanded {} Try.checked os 6 .any (Rows.fnExactPhaseFieldSpec.pre6 enc Try.prog Try.f6 Rows.fnExactPhaseFieldRow.domain false) (Rows.fnExactPhaseFieldSpec.post enc Try.prog Try.f6 false true false false) := by
  refine returnsInHanded_of_change (C := Try.checked) own started (by kernel_rfl) Try.func6
    (ChangeSpec.witness6 (enc := enc) (C := Try.checked) false ⟨#[], #[.slice none 0 0, .slice none 0 0], []⟩ 8 (by kernel_rfl) (by kernel_rfl) (by kernel_rfl) (by kernel_rfl)) ?_
  intro W base args ds gs before hval0 hW hcnd _
  have hval : ∀ (j : Nat) t v, Try.f6.params[j]? = some t → args[j]? = some v → Value.okWide Try.prog W .any base t v := hval0
  have hW' := hW
  obtain ⟨p, q, hA0, hV, rfl, hfz, hnd⟩ := hW
  have hA : DataW.TrodAll enc Try.prog W 0 (fun _ => true) true Try.f6.params.toList args.toList ds p := hA0
  rw [Try.params6] at hA hval
  obtain ⟨v0, vs0, d0, ds0, p0, q0, hargs, rfl, rfl, h0, r0⟩ := trodAll_cons hA
  obtain ⟨v1, vs1, d1, ds1, p1, q1, rfl, rfl, rfl, h1, r1⟩ := trodAll_cons r0
  obtain ⟨rfl, rfl, rfl⟩ := trodAll_nil r1
  obtain rfl : args = #[v0, v1] := by cases args; simp_all
  obtain ⟨rfl, rfl⟩ := trodVars_none hV
  have k0 := h0
  have lt0 : ∀ x ∈ p0, x.block < W.heap.size := by obtain ⟨m, hm⟩ := k0; exact DataW.trod_lt m _ _ _ hm
  obtain ⟨n0, F0, R0, nb0, fb0⟩ := open_zrow (hval 0 32 v0 rfl rfl) h0
  have k1 := h1
  have lt1 : ∀ x ∈ p1, x.block < W.heap.size := by obtain ⟨m, hm⟩ := k1; exact DataW.trod_lt m _ _ _ hm
  obtain ⟨n1, F1, R1, nb1, fb1⟩ := open_irow (hval 1 26 v1 rfl rfl) h1
  clear hA0 hval0
  refine (walk R0 nb0 fb0 R1 nb1 fb1).mono fun e W' ⟨he, bel⟩ => ?_
  subst he
  exact ⟨_, rfl, _, _, _, [], _, [], hW', trodAll_mk1 (shut_bool Try.underlying4 _), (trodAll_cons_mk (Below.trod laidOut (by kernel_rfl) (of_decide_eq_true (by kernel_rfl)) k0 bel lt0) (trodAll_cons_mk (Below.trod laidOut (by kernel_rfl) (of_decide_eq_true (by kernel_rfl)) k1 bel lt1) trodAll_mk0)), rfl, bel.frame _, fun h => by cases h⟩

theorem over : Rows.fnExactPhaseFieldRow.holds Try.pinned (OpenSpec.ofChange Rows.fnExactPhaseFieldSpec) :=
  OpenClaim.holds_of_wide 6 Try.f6 rfl rfl rfl rfl rfl rfl rfl ⟨rfl, rfl, rfl, rfl, rfl⟩ rfl rfl rfl rfl rfl (by kernel_rfl) Try.func6 (by kernel_rfl)
    (of_decide_eq_true (by kernel_rfl)) (by unfold Func.isWrapper; first | (rw [if_pos (by decide +kernel)]; kernel_rfl) | (rw [if_neg (by decide +kernel)]; exact ⟨rfl, rfl⟩))
    (fun os started H enc _ => lifted os started H enc)
end Go.Proofs.Ytgidoceflkdklaa.LawPhaseField
namespace Go.Proofs.Ytgidoceflkdklaa
theorem phaseField_holds : Rows.FnExactPhaseFieldSaid := LawPhaseField.over
#print axioms phaseField_holds
end Go.Proofs.Ytgidoceflkdklaa
