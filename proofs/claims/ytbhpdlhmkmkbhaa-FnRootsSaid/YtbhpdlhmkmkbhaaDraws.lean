/- The drawing of one float out of bytes: a contract. -/
import Derived.Test.YtbhpdlhmkmkbhaaDraw
namespace Go.Proofs.Ytbhpdlhmkmkbhaa
open Go.RowKit Fl
set_option linter.unusedVariables false
theorem Src.alloc {w0 w : World} {v : Value} {a : Int} {p : Nat} (h : Src w0 w v a p) (o : Obj) : Src w0 (w.alloc o) v a p := by
  have hp := World.block_lt_of_cell? _ _ h.code
  have hs := h.below.size
  refine ⟨h.below.alloc hs o, h.new, ?_, ?_, ?_⟩
  · rw [← h.code]; simp only [World.cell?]; rw [Below.heap_alloc _ _ _ hp]
  · rw [← h.here]; simp only [World.cell?]; rw [Below.heap_alloc _ _ _ hp]
  · rw [← h.free]; simp only [World.frozen?]; rw [Below.heap_alloc _ _ _ hp]
theorem Src.next {w0 w : World} {v : Value} {a : Int} {p : Nat} (h : Src w0 w v a p) (q : Nat) : Src w0 ((w.setCell ⟨p, 1, none⟩ (.int .i64 (a + 1))).drewN q) v (a + 1) p := by
  refine ⟨below_drewN (h.below.setCell h.new _) _, h.new, ?_, ?_, ?_⟩
  · rw [World.cell?_drewN, World.cell?_setCell_other _ _ _ _ (by intro k; have : 1 = 0 := congrArg Addr.off k; omega)]; exact h.code
  · rw [World.cell?_drewN, World.cell?_setCell_same _ _ _ h.here]
  · have := h.free
    simpa using this
theorem RdB.cells {w0 w : World} {b off n : Nat} {g : Nat → Int} (hb : Below w0.heap.size w0 w) (h : ∀ i, i < n → w0.cell? ⟨b, off + i, none⟩ = some (.int .u8 (g i))) (i : Nat) (hi : i < n) : w.cell? ⟨b, off + i, none⟩ = some (.int .u8 (g i)) :=
  (hb.cell (World.block_lt_of_cell? _ _ (h i hi))).trans (h i hi)
theorem next_any {w0 w : World} {v : Value} {n : Nat} {g : Nat → Int} {a N : Int} {p : Nat} (hS : Src w0 w v a p) (hB : RdB w0 v n g) (hg : ∀ i, i < n → 0 ≤ g i ∧ g i ≤ 255) (hn : n ≤ 1000000000000) (ha : 0 ≤ a) (ha2 : a ≤ 1000) (hN : 1 ≤ N) (hN2 : N ≤ 4294967296) :
    Calls Try.prog 49 #[.pointer (some ⟨p, 0, none⟩), .int .i64 N] w fun e w' => ∃ r : Int, e = .returned (.int .i64 r) ∧ 0 ≤ r ∧ r < N ∧ Src w0 w' v (a + 1) p ∧ ∀ b, b ≠ p → w'.heap[b]? = w.heap[b]? := by
  have fin : ∀ (e : Ending) (w' : World), (∃ r : Int, e = .returned (.int .i64 r) ∧ 0 ≤ r ∧ r < N ∧ ∃ q, w' = (w.setCell ⟨p, 1, none⟩ (.int .i64 (a + 1))).drewN q) → ∃ r : Int, e = .returned (.int .i64 r) ∧ 0 ≤ r ∧ r < N ∧ Src w0 w' v (a + 1) p ∧ ∀ b, b ≠ p → w'.heap[b]? = w.heap[b]? := by
    rintro e w' ⟨r, rfl, h1, h2, q, rfl⟩
    exact ⟨r, rfl, h1, h2, hS.next q, fun b hb => Below.heap_setCell _ _ _ _ hb⟩
  rcases hB with ⟨ao, cap, rfl, rfl⟩ | ⟨b, off, cap, rfl, hc⟩
  · exact (next_none ao cap p a N w ha ha2 hN hN2 hS.code hS.here hS.free).mono fin
  · by_cases h0 : n = 0
    · subst h0
      exact (next_none _ cap p a N w ha ha2 hN hN2 hS.code hS.here hS.free).mono fin
    · obtain ⟨i, hi, hr⟩ := rem_nat (n := n) ha (by omega)
      obtain ⟨q, q0, q1, hq⟩ := quo_nat (n := n) ha (by omega)
      have hx := RdB.cells hS.below hc i hi
      have hb : b ≠ p := by
        have h1 : b < w0.heap.size := World.block_lt_of_cell? _ _ (hc i hi)
        have := hS.new
        omega
      by_cases hs : N ≤ 200
      · exact (next_short b off n cap p a N (g i) q i w ha ha2 hN hs (by omega) hn hi hr hq q0 q1 (hg i hi).1 (hg i hi).2 hS.code hS.here hS.free hx hb).mono fin
      · obtain ⟨j, hj, hr2⟩ := rem_nat (a := a + 1) (n := n) (by omega) (by omega)
        have hy := RdB.cells hS.below hc j hj
        exact (next_long b off n cap p a N (g i) (g j) q i j w ha ha2 (by omega) hN2 (by omega) hn hi hj hr hr2 hq q0 q1 (hg i hi).1 (hg i hi).2 (hg j hj).1 (hg j hj).2 hS.code hS.here hS.free hx hy hb).mono fin
/-- What a source gives next, at whatever world. -/
def Nexts (w0 : World) (v : Value) (p : Nat) : Prop := ∀ (w : World) (a N : Int), Src w0 w v a p → 0 ≤ a → a ≤ 1000 → 1 ≤ N → N ≤ 4294967296 →
  Calls Try.prog 49 #[.pointer (some ⟨p, 0, none⟩), .int .i64 N] w fun e w' => ∃ r : Int, e = .returned (.int .i64 r) ∧ 0 ≤ r ∧ r < N ∧ Src w0 w' v (a + 1) p ∧ ∀ b, b ≠ p → w'.heap[b]? = w.heap[b]?
theorem or_fits (x y : Int) : 0 ≤ bits .or .u64 x y ∧ bits .or .u64 x y < 18446744073709551616 := by
  unfold bits
  simp only [IntKind.wrap, IntKind.bits, IntKind.signed]
  simp
  omega
theorem quo_run : ∀ (x y : Nat) (t : TypeId) (w : World), (binOp .quo t (.float .f64 x) (.float .f64 y)).run Try.prog w = .ok (.float .f64 (opV .quo x y w)) (opW .quo x y w) := fun x y t w => run_float w .quo t x y (by simp)
theorem table_cell {w w' : World} {i : Nat} (h : w'.heap[w.heap.size]? = (w.alloc (.cells #[.int .u64 0, .int .u64 9223372036854775808, .int .u64 9218868437227405312, .int .u64 18442240474082181120, .int .u64 9221120237041090560, .int .u64 1, .int .u64 9223372036854775809, .int .u64 9218868437227405311, .int .u64 4503599627370496, .int .u64 4503599627370495] 29)).heap[w.heap.size]?) (hi : i < 10) :
    ∃ B : Nat, B < 18446744073709551616 ∧ w'.cell? ⟨w.heap.size, i, none⟩ = some (.int .u64 (B : Int)) := by
  have hc : w'.cell? ⟨w.heap.size, i, none⟩ = (#[.int .u64 0, .int .u64 9223372036854775808, .int .u64 9218868437227405312, .int .u64 18442240474082181120, .int .u64 9221120237041090560, .int .u64 1, .int .u64 9223372036854775809, .int .u64 9218868437227405311, .int .u64 4503599627370496, .int .u64 4503599627370495] : Array Value)[i]? := by
    rw [← World.cell?_alloc_new w _ 29 i]
    simp only [World.cell?]
    rw [h]
  rw [hc]
  clear hc h
  match i, hi with
  | 0, _ => exact ⟨0, by omega, rfl⟩
  | 1, _ => exact ⟨9223372036854775808, by omega, rfl⟩
  | 2, _ => exact ⟨9218868437227405312, by omega, rfl⟩
  | 3, _ => exact ⟨18442240474082181120, by omega, rfl⟩
  | 4, _ => exact ⟨9221120237041090560, by omega, rfl⟩
  | 5, _ => exact ⟨1, by omega, rfl⟩
  | 6, _ => exact ⟨9223372036854775809, by omega, rfl⟩
  | 7, _ => exact ⟨9218868437227405311, by omega, rfl⟩
  | 8, _ => exact ⟨4503599627370496, by omega, rfl⟩
  | 9, _ => exact ⟨4503599627370495, by omega, rfl⟩
set_option maxHeartbeats 1600000 in
theorem float_any {w0 w : World} {v : Value} {a : Int} {p : Nat} (hS : Src w0 w v a p) (HN : Hid (Nexts w0 v p)) (ha : 0 ≤ a) (ha2 : a ≤ 900) :
    Calls Try.prog 48 #[.pointer (some ⟨p, 0, none⟩)] w fun e w' => ∃ x, e = .returned (.float .f64 x) ∧ x < 18446744073709551616 ∧ Below w0.heap.size w0 w' := by
  have HS : Hid (Src w0 w v a p) := hS
  clear hS
  go_enter Try.func48, Try.ntmps48
  go_wp2_with fail
  refine (HN.out _ a 14 HS.out ha (by omega) (by omega) (by omega)).mono ?_
  rintro e w1 ⟨r, rfl, r0, r1, s1, -⟩
  have S1 : Hid (Src w0 w1 v (a + 1) p) := s1
  clear s1 HS
  by_cases c0 : r = 0
  · subst c0
    go_wp2_with fail
    refine (HN.out _ (a + 1) 10 (S1.out.alloc _) (by omega) (by omega) (by omega) (by omega)).mono ?_
    rintro e w2 ⟨r, rfl, t0, t1, s2, hold⟩
    obtain ⟨i, rfl⟩ := Int.eq_ofNat_of_zero_le t0
    obtain ⟨B, hB, hcell⟩ := table_cell (i := i) (hold w1.heap.size (by have := World.block_lt_of_cell? _ _ S1.out.code; simp only at this; omega)) (by omega)
    have S2 : Hid (Src w0 w2 v (a + 1 + 1) p) := s2
    clear s2 hold S1
    go_wp2_with fail
    refine (sOf_any hB _).mono ?_
    rintro e w3 ⟨x, q, rfl, hx, -, rfl⟩
    clear hcell
    go_wp2
    go_ret
    exact ⟨x, rfl, hx, below_drewN S2.out.below _⟩
  by_cases c1 : r = 1
  · subst c1
    go_wp2_with fail
    refine (HN.out _ (a + 1) 4294967296 S1.out (by omega) (by omega) (by omega) (by omega)).mono ?_
    rintro e w2 ⟨r, rfl, t0, t1, s2, -⟩
    have S2 : Hid (Src w0 w2 v (a + 1 + 1) p) := s2
    clear s2 S1
    go_wp2_with fail
    refine (HN.out _ (a + 1 + 1) 4294967296 S2.out (by omega) (by omega) (by omega) (by omega)).mono ?_
    rintro e w3 ⟨r2, rfl, u0, u1, s3, -⟩
    have S3 : Hid (Src w0 w3 v (a + 1 + 1 + 1) p) := s3
    clear s3 S2
    obtain ⟨B, hB⟩ : ∃ B : Nat, bits .or .u64 (r * 4294967296) r2 = (B : Int) := ⟨(bits .or .u64 (r * 4294967296) r2).toNat, by have := or_fits (r * 4294967296) r2; omega⟩
    have hB2 : B < 18446744073709551616 := by have := or_fits (r * 4294967296) r2; omega
    go_wp2_with fail
    refine (sOf_any hB2 _).mono ?_
    rintro e w4 ⟨x, q, rfl, hx, -, rfl⟩
    clear hB
    go_wp2
    go_ret
    exact ⟨x, rfl, hx, below_drewN S3.out.below _⟩
  by_cases c2 : r = 2
  · subst c2
    go_wp2_with fail
    refine (HN.out _ (a + 1) 1000 S1.out (by omega) (by omega) (by omega) (by omega)).mono ?_
    rintro e w2 ⟨r, rfl, t0, t1, s2, -⟩
    have S2 : Hid (Src w0 w2 v (a + 1 + 1) p) := s2
    clear s2 S1
    go_wp2_with fail
    refine (HN.out _ (a + 1 + 1) 2000 S2.out (by omega) (by omega) (by omega) (by omega)).mono ?_
    rintro e w3 ⟨r2, rfl, u0, u1, s3, -⟩
    have S3 : Hid (Src w0 w3 v (a + 1 + 1 + 1) p) := s3
    clear s3 S2
    obtain ⟨k, hk⟩ : ∃ k : Nat, r + 1 = (k : Int) := ⟨(r + 1).toNat, by omega⟩
    have HT : Hid (∀ w, Calls Try.prog 62 #[.float .f64 (floatOfInt .f64 (r + 1)), .int .i64 (r2 - 1074)] w fun e w' => e = .returned (.float .f64 (F false k (r2 - 1074))) ∧ w = w') := fun w =>
      times_any (by rw [hk]; exact floatOfInt_F k) (by omega) (by omega) (by omega) w
    have HK : Hid (r + 1 = (k : Int)) := hk
    clear hk
    go_wp2_with fail
    refine (HT.out _).mono ?_
    rintro e w4 ⟨rfl, rfl⟩
    clear HT
    go_wp2
    go_ret
    exact ⟨_, rfl, Ieee.double.nearest_lt false k (r2 - 1074), S3.out.below⟩
  have hquo := quo_run
  by_cases c3 : r = 3
  · subst c3
    go_wp2_with fail
    refine (HN.out _ (a + 1) 33554432 S1.out (by omega) (by omega) (by omega) (by omega)).mono ?_
    rintro e w2 ⟨r, rfl, t0, t1, s2, -⟩
    have S2 : Hid (Src w0 w2 v (a + 1 + 1) p) := s2
    clear s2 S1
    go_wp2
    go_ret
    exact ⟨_, rfl, opV_lt _ _ _ _, below_opW S2.out.below⟩
  · go_wp2_with fail
    refine (HN.out _ (a + 1) 2001 S1.out (by omega) (by omega) (by omega) (by omega)).mono ?_
    rintro e w2 ⟨r, rfl, t0, t1, s2, -⟩
    have S2 : Hid (Src w0 w2 v (a + 1 + 1) p) := s2
    clear s2 S1
    go_wp2_with fail
    refine (HN.out _ (a + 1 + 1) 16 S2.out (by omega) (by omega) (by omega) (by omega)).mono ?_
    rintro e w3 ⟨r2, rfl, u0, u1, s3, -⟩
    have S3 : Hid (Src w0 w3 v (a + 1 + 1 + 1) p) := s3
    clear s3 S2
    go_wp2
    go_ret
    exact ⟨_, rfl, opV_lt _ _ _ _, below_opW S3.out.below⟩
theorem draw_any {w : World} {v : Value} {n : Nat} {g : Nat → Int} (hB : RdB w v n g) (hg : ∀ i, i < n → 0 ≤ g i ∧ g i ≤ 255) (hn : n ≤ 1000000000000) :
    Calls Try.prog 26 #[v] w fun e w' => ∃ x, e = .returned (.float .f64 x) ∧ x < 18446744073709551616 ∧ Below w.heap.size w w' := by
  have HB : Hid (RdB w v n g ∧ ∀ i, i < n → 0 ≤ g i ∧ g i ≤ 255) := ⟨hB, hg⟩
  have HN : Hid (Nexts w v w.heap.size) := fun W a N hS h1 h2 h3 h4 => next_any hS hB hg hn h1 h2 h3 h4
  obtain ⟨ao, cap, rfl⟩ : ∃ ao cap, v = .slice ao n cap := by
    rcases hB with ⟨ao, cap, rfl, rfl⟩ | ⟨b, off, cap, rfl, _⟩
    · exact ⟨ao, cap, rfl⟩
    · exact ⟨_, cap, rfl⟩
  clear hB hg HB
  go_enter Try.func26, Try.ntmps26
  go_wp2_with fail
  refine (source_any ao n cap w).mono ?_
  rintro e w1 ⟨rfl, hw1⟩
  have HS : Hid (Src w w1 (.slice ao n cap) 0 w.heap.size) := by rw [hw1]; exact src_new w _
  clear hw1
  go_wp2_with fail
  refine (float_any HS.out HN (by omega) (by omega)).mono ?_
  rintro e w2 ⟨x, rfl, hx, hb⟩
  go_wp2
  go_ret
  exact ⟨x, rfl, hx, hb⟩
end Go.Proofs.Ytbhpdlhmkmkbhaa
