/- The drawing of wrong fractions out of bytes: contracts. -/
import Derived.Test.YtkkajcdjkfbcgaaDq
namespace Go.Proofs.Ytkkajcdjkfbcgaa
open Go.RowKit
set_option linter.unusedVariables false
set_option linter.unusedSimpArgs false
theorem pick_any {w0 w : World} {v : Value} {a : Int} {p : Nat} (hS : Src w0 w v a p) (NX : Nexts w0 v p) (h0 : 0 ≤ a) (h1 : a ≤ 1000) (b m : Nat) (hm : 1 ≤ m) (hm2 : m ≤ 100) (hb : b ≠ p) (B : Int) (hc : ∀ i, i < m → ∃ x : Int, w.cell? ⟨b, i, none⟩ = some (.int .i64 x) ∧ -B ≤ x ∧ x ≤ B) :
    Calls Try.prog 56 #[.pointer (some ⟨p, 0, none⟩), .slice (some ⟨b, 0, none⟩) m m] w fun e w' => ∃ r : Int, e = .returned (.int .i64 r) ∧ (-B ≤ r ∧ r ≤ B) ∧ Src w0 w' v (a + 1) p ∧ Bu p w w' := by
  have C : Hid (Calls Try.prog 54 #[.pointer (some ⟨p, 0, none⟩), .int .i64 m] w fun e w' => ∃ r : Int, e = .returned (.int .i64 r) ∧ 0 ≤ r ∧ r < m ∧ Src w0 w' v (a + 1) p ∧ ∀ b, b ≠ p → w'.heap[b]? = w.heap[b]?) := NX w a m hS h0 h1 (by omega) (by omega)
  have HC : Hid (∀ i, i < m → ∃ x : Int, w.cell? ⟨b, i, none⟩ = some (.int .i64 x) ∧ -B ≤ x ∧ x ≤ B) := hc
  clear hS NX hc
  go_enter Try.func56, Try.ntmps56
  go_wp2_with fail
  refine C.out.mono ?_
  rintro e w1 ⟨r, rfl, r0, r1, hS, hk⟩
  obtain ⟨i, rfl⟩ := Int.eq_ofNat_of_zero_le r0
  obtain ⟨x, hx, hxb⟩ := HC.out i (by omega)
  have hx1 : w1.cell? ⟨b, i, none⟩ = some (.int .i64 x) := by
    simp only [World.cell?] at hx ⊢
    rw [hk b hb]
    exact hx
  have U : Hid (Bu p w w1) := bu_next hS hk
  have HS : Hid (Src w0 w1 v (a + 1) p) := hS
  replace hxb : Hid _ := hxb
  clear hS hk hx C HC
  go_wp2
  go_ret
  exact ⟨x, rfl, hxb.out, HS.out, U.out⟩
set_option maxRecDepth 20000 in
set_option maxHeartbeats 3200000 in
theorem bent_any : Dr 103 6 2000000002 := by
  intro w0 w v a p hS NX h0 hK
  have N : Hid (Nexts w0 v p) := NX
  have hp := hS.lt
  have hw := hS.below.size
  obtain ⟨w1, hw1⟩ : ∃ W, W = w.alloc (.cells #[.int .i64 0, .int .i64 0] 32) := ⟨_, rfl⟩
  have S1 : Hid (Src w0 w1 v a p) := by show Src _ _ _ _ _; rw [hw1]; exact hS.alloc _
  have U1 : Hid (Bu p w w1) := by show Bu _ _ _; rw [hw1]; exact (Bu.refl _ _).alloc _
  have R1 : Hid (Blk w1 w.heap.size #[.int .i64 0, .int .i64 0] 32) := by show Blk _ _ _ _; rw [hw1]; exact Blk.new rfl
  clear hS NX
  go_enter Try.func103, Try.ntmps103
  go_upto_region 1 with fail
  rw [← hw1]
  clear hw1
  go_wp2_with fail
  refine (wide_any _ _ _ _ _ S1.out N.out (by omega) (by omega)).mono ?_
  rintro e w2 ⟨q, m, rfl, qB, mb, hs, hu⟩
  obtain ⟨m0, m1⟩ := mb
  have S2 : Hid (Src w0 w2 v (m) p) := hs
  have u := hu
  have U2 : Hid (Bu p w w2) := U1.out.trans u
  have R2 : Hid (Blk w2 w.heap.size #[.int .i64 0, .int .i64 0] 32) := u.keep R1.out (by omega)
  have z2 : w1.heap.size ≤ w2.heap.size := u.size
  clear u hs S1 U1 R1 
  clear hu
  obtain ⟨g1, g2, g3, g4⟩ := qB
  go_upto_region 2 with fail
  obtain ⟨w3, hw3⟩ : ∃ W, W = w2.alloc (.cells #[.int .i64 q.n, .int .i64 q.d] 32) := ⟨_, rfl⟩
  rw [← hw3]
  have hb : Below w2.heap.size w2 w3 := by rw [hw3]; exact (Below.refl _ _).alloc (Nat.le_refl _) _
  have F3 : Hid (Blk w3 w2.heap.size #[.int .i64 q.n, .int .i64 q.d] 32) := by show Blk _ _ _ _; rw [hw3]; exact Blk.new rfl
  have hpF : p < w2.heap.size := S2.out.lt
  have hwF : w.heap.size < w2.heap.size := R2.out.lt
  have hs := S2.out.later hb
  have S3 : Hid (Src w0 w3 v (m) p) := hs
  have u := Bu.of_below (p := p) hb
  have U3 : Hid (Bu p w w3) := U2.out.trans u
  have R3 : Hid (Blk w3 w.heap.size #[.int .i64 0, .int .i64 0] 32) := u.keep R2.out (by omega)
  have z3 : w2.heap.size ≤ w3.heap.size := u.size
  clear u hs S2 U2 R2 
  clear hb hw3
  go_wp2_with fail
  refine (N.out _ _ 24 S3.out (by omega) (by omega) (by omega) (by omega)).mono ?_
  rintro e w4 ⟨r, rfl, r0, r1, hs, hb⟩
  have S4 : Hid (Src w0 w4 v (m + 1) p) := hs
  have u := bu_next hs hb
  have U4 : Hid (Bu p w w4) := U3.out.trans u
  have R4 : Hid (Blk w4 w.heap.size #[.int .i64 0, .int .i64 0] 32) := u.keep R3.out (by omega)
  have z4 : w3.heap.size ≤ w4.heap.size := u.size
  have F4 : Hid (Blk w4 (w2.heap.size) #[.int .i64 q.n, .int .i64 q.d] 32) := u.keep F3.out (by omega)
  clear u hs S3 U3 R3 F3
  clear hb
  by_cases e0 : r = 0
  · subst e0
    go_wp2_with fail
    obtain ⟨w5, hw3⟩ : ∃ W, W = w4.alloc (.cells #[.int .i64 0, .int .i64 (-1), .int .i64 1000000001] 2) := ⟨_, rfl⟩
    rw [← hw3]
    have hb : Below w4.heap.size w4 w5 := by rw [hw3]; exact (Below.refl _ _).alloc (Nat.le_refl _) _
    have T5 : Hid (Blk w5 w4.heap.size #[.int .i64 0, .int .i64 (-1), .int .i64 1000000001] 2) := by show Blk _ _ _ _; rw [hw3]; exact Blk.new rfl
    have hpT : p < w4.heap.size := S4.out.lt
    have hwT : w.heap.size < w4.heap.size := R4.out.lt
    have hxTF : w2.heap.size < w4.heap.size := F4.out.lt
    have hs := S4.out.later hb
    have S5 : Hid (Src w0 w5 v (m + 1) p) := hs
    have u := Bu.of_below (p := p) hb
    have U5 : Hid (Bu p w w5) := U4.out.trans u
    have R5 : Hid (Blk w5 w.heap.size #[.int .i64 0, .int .i64 0] 32) := u.keep R4.out (by omega)
    have z5 : w4.heap.size ≤ w5.heap.size := u.size
    have F5 : Hid (Blk w5 (w2.heap.size) #[.int .i64 q.n, .int .i64 q.d] 32) := u.keep F4.out (by omega)
    clear u hs S4 U4 R4 F4
    clear hb hw3
    refine (pick_any S5.out N.out (by omega) (by omega) (w4.heap.size) 3 (by omega) (by omega) (by omega) 1000000001 ?_).mono ?_
    · intro i hi
      have hi3 : i = 0 ∨ i = 1 ∨ i = 2 := by omega
      rcases hi3 with rfl | rfl | rfl <;> exact ⟨_, T5.out.cell rfl, by omega, by omega⟩
    rintro e w6 ⟨h, rfl, hB, hs, hu⟩
    obtain ⟨hB1, hB2⟩ := hB
    have S6 : Hid (Src w0 w6 v (m + 1 + 1) p) := hs
    have u := hu
    have U6 : Hid (Bu p w w6) := U5.out.trans u
    have R6 : Hid (Blk w6 w.heap.size #[.int .i64 0, .int .i64 0] 32) := u.keep R5.out (by omega)
    have z6 : w5.heap.size ≤ w6.heap.size := u.size
    have F6 : Hid (Blk w6 (w2.heap.size) #[.int .i64 q.n, .int .i64 q.d] 32) := u.keep F5.out (by omega)
    have T6 : Hid (Blk w6 (w4.heap.size) #[.int .i64 0, .int .i64 (-1), .int .i64 1000000001] 2) := u.keep T5.out (by omega)
    clear u hs S5 U5 R5 F5 T5
    clear hu
    have c0 := R6.out.cell (j := 0) (v := .int .i64 0) rfl
    have f0 := R6.out.frozen 0
    have c1 := R6.out.cell (j := 1) (v := .int .i64 0) rfl
    have f1 := R6.out.frozen 1
    have Fc0 := F6.out.cell (j := 0) (v := .int .i64 q.n) rfl
    have Ff0 := F6.out.frozen 0
    have Fc1 := F6.out.cell (j := 1) (v := .int .i64 q.d) rfl
    have Ff1 := F6.out.frozen 1
    go_wp2
    refine bodyPost_ret (v := .agg #[.int .i64 (q.n), .int .i64 (h)]) (by simp [results, Try.results103, go_sem, c0, c1]) rfl ⟨⟨q.n, h⟩, m + 1 + 1, rfl, ⟨by dsimp only; omega, by dsimp only; omega, by dsimp only; omega, by dsimp only; omega⟩, ⟨by omega, by omega⟩, ?_, ?_⟩
    · repeat (first | exact S6.out | refine Src.set ?_ (by omega) (by omega) _)
    · repeat (first | exact U6.out | refine Bu.set ?_ (by omega) _)
  by_cases e1 : r = 1
  · subst e1
    go_wp2_with fail
    refine (N.out _ _ 2 S4.out (by omega) (by omega) (by omega) (by omega)).mono ?_
    rintro e w5 ⟨s, rfl, s0, s1, hs, hb⟩
    have S5 : Hid (Src w0 w5 v (m + 1 + 1) p) := hs
    have u := bu_next hs hb
    have U5 : Hid (Bu p w w5) := U4.out.trans u
    have R5 : Hid (Blk w5 w.heap.size #[.int .i64 0, .int .i64 0] 32) := u.keep R4.out (by omega)
    have z5 : w4.heap.size ≤ w5.heap.size := u.size
    have F5 : Hid (Blk w5 (w2.heap.size) #[.int .i64 q.n, .int .i64 q.d] 32) := u.keep F4.out (by omega)
    clear u hs S4 U4 R4 F4
    clear hb
    have c0 := R5.out.cell (j := 0) (v := .int .i64 0) rfl
    have f0 := R5.out.frozen 0
    have c1 := R5.out.cell (j := 1) (v := .int .i64 0) rfl
    have f1 := R5.out.frozen 1
    have Fc0 := F5.out.cell (j := 0) (v := .int .i64 q.n) rfl
    have Ff0 := F5.out.frozen 0
    have Fc1 := F5.out.cell (j := 1) (v := .int .i64 q.d) rfl
    have Ff1 := F5.out.frozen 1
    go_wp2
    refine bodyPost_ret (v := .agg #[.int .i64 (1000000000 + s), .int .i64 (q.d)]) (by simp [results, Try.results103, go_sem, c0, c1]) rfl ⟨⟨1000000000 + s, q.d⟩, m + 1 + 1, rfl, ⟨by dsimp only; omega, by dsimp only; omega, by dsimp only; omega, by dsimp only; omega⟩, ⟨by omega, by omega⟩, ?_, ?_⟩
    · repeat (first | exact S5.out | refine Src.set ?_ (by omega) (by omega) _)
    · repeat (first | exact U5.out | refine Bu.set ?_ (by omega) _)
  by_cases e2 : r = 2
  · subst e2
    have c0 := R4.out.cell (j := 0) (v := .int .i64 0) rfl
    have f0 := R4.out.frozen 0
    have c1 := R4.out.cell (j := 1) (v := .int .i64 0) rfl
    have f1 := R4.out.frozen 1
    have Fc0 := F4.out.cell (j := 0) (v := .int .i64 q.n) rfl
    have Ff0 := F4.out.frozen 0
    have Fc1 := F4.out.cell (j := 1) (v := .int .i64 q.d) rfl
    have Ff1 := F4.out.frozen 1
    go_wp2
    refine bodyPost_ret (v := .agg #[.int .i64 (q.n * 2), .int .i64 (q.d * 2)]) (by simp [results, Try.results103, go_sem, c0, c1]) rfl ⟨⟨q.n * 2, q.d * 2⟩, m + 1, rfl, ⟨by dsimp only; omega, by dsimp only; omega, by dsimp only; omega, by dsimp only; omega⟩, ⟨by omega, by omega⟩, ?_, ?_⟩
    · repeat (first | exact S4.out | refine Src.set ?_ (by omega) (by omega) _)
    · repeat (first | exact U4.out | refine Bu.set ?_ (by omega) _)
  have c0 := R4.out.cell (j := 0) (v := .int .i64 0) rfl
  have f0 := R4.out.frozen 0
  have c1 := R4.out.cell (j := 1) (v := .int .i64 0) rfl
  have f1 := R4.out.frozen 1
  have Fc0 := F4.out.cell (j := 0) (v := .int .i64 q.n) rfl
  have Ff0 := F4.out.frozen 0
  have Fc1 := F4.out.cell (j := 1) (v := .int .i64 q.d) rfl
  have Ff1 := F4.out.frozen 1
  go_wp2
  refine bodyPost_ret (v := .agg #[.int .i64 (q.n), .int .i64 (q.d)]) (by simp [results, Try.results103, go_sem, c0, c1]) rfl ⟨⟨q.n, q.d⟩, m + 1, rfl, ⟨by dsimp only; omega, by dsimp only; omega, by dsimp only; omega, by dsimp only; omega⟩, ⟨by omega, by omega⟩, ?_, ?_⟩
  · repeat (first | exact S4.out | refine Src.set ?_ (by omega) (by omega) _)
  · repeat (first | exact U4.out | refine Bu.set ?_ (by omega) _)
end Go.Proofs.Ytkkajcdjkfbcgaa
