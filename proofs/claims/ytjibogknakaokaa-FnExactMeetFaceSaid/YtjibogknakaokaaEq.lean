/- The laws' comparisons of sags and of hits. -/
import Derived.Test.YtjibogknakaokaaHp
namespace Go.Proofs.Ytjibogknakaokaa
open Go.RowKit Fl
set_option linter.unusedVariables false
set_option linter.unusedSimpArgs false
set_option maxRecDepth 20000 in
set_option maxHeartbeats 3200000 in
theorem eqSR_same {s u s2 u2 : Nat} {S U : Option Nat} (c : Int) (h1 : Fc s S ∧ Fc u U) (h2 : Fc s2 S ∧ Fc u2 U) (w : World) : Calls Try.prog 32 #[Hv c s u, Hv c s2 u2] w fun e w' => e = .returned (.bool true) ∧ Below w.heap.size w w' := by
  have H1 : Hid (∀ W, Calls Try.prog 69 #[.float .f64 s, .float .f64 s2] W fun e w' => e = .returned (.bool true) ∧ W = w') := fun W => same_any h1.1.lx h2.1.lx (h1.1.c.trans h2.1.c.symm) W
  have H2 : Hid (∀ W, Calls Try.prog 69 #[.float .f64 u, .float .f64 u2] W fun e w' => e = .returned (.bool true) ∧ W = w') := fun W => same_any h1.2.lx h2.2.lx (h1.2.c.trans h2.2.c.symm) W
  clear h1 h2
  go_enter Try.func32, Try.ntmps32
  have HO : Hid (Below w.heap.size w w) := Below.refl _ _
  go_upto_region 1 with fail
  obtain ⟨v1, hv⟩ : ∃ X, X = ((w.alloc (.cells #[.int .i64 c, .float .f64 s, .float .f64 u] 55)).alloc (.cells #[.int .i64 c, .float .f64 s2, .float .f64 u2] 55)) := ⟨_, rfl⟩
  rw [← hv]
  have ne_a_b : Hid (w.heap.size ≠ w.heap.size + 1) := by show (w.heap.size : Nat) ≠ w.heap.size + 1; omega
  have B_a : Hid (Blk v1 (w.heap.size) #[.int .i64 c, .float .f64 s, .float .f64 u] 55) := by show Blk v1 (w.heap.size) _ _; rw [hv]; exact (Blk.alloc (Blk.new (by simp)) _)
  have low_a : Hid (w.heap.size ≤ w.heap.size) := by show w.heap.size ≤ w.heap.size; have := HO.out.size; omega
  have B_b : Hid (Blk v1 (w.heap.size + 1) #[.int .i64 c, .float .f64 s2, .float .f64 u2] 55) := by show Blk v1 (w.heap.size + 1) _ _; rw [hv]; exact (Blk.new (by simp))
  have low_b : Hid (w.heap.size ≤ w.heap.size + 1) := by show w.heap.size ≤ w.heap.size + 1; have := HO.out.size; omega
  replace HO : Hid (Below w.heap.size w v1) := by show Below w.heap.size w v1; rw [hv]; exact (below_new (below_new HO.out _) _)
  clear hv
  have a_0 := B_a.out.cell (j := 0) rfl
  have a_1 := B_a.out.cell (j := 1) rfl
  have a_2 := B_a.out.cell (j := 2) rfl
  have a_f := B_a.out.frozen
  have a_z := B_a.out.lt
  have b_0 := B_b.out.cell (j := 0) rfl
  have b_1 := B_b.out.cell (j := 1) rfl
  have b_2 := B_b.out.cell (j := 2) rfl
  have b_f := B_b.out.frozen
  have b_z := B_b.out.lt
  go_wp2_with fail
  refine (H1.out _).mono ?_
  rintro e wx ⟨rfl, rfl⟩
  clear a_0 a_1 a_2 a_f a_z b_0 b_1 b_2 b_f b_z
  have a_0 := B_a.out.cell (j := 0) rfl
  have a_1 := B_a.out.cell (j := 1) rfl
  have a_2 := B_a.out.cell (j := 2) rfl
  have a_f := B_a.out.frozen
  have a_z := B_a.out.lt
  have b_0 := B_b.out.cell (j := 0) rfl
  have b_1 := B_b.out.cell (j := 1) rfl
  have b_2 := B_b.out.cell (j := 2) rfl
  have b_f := B_b.out.frozen
  have b_z := B_b.out.lt
  go_wp2_with fail
  refine (H2.out _).mono ?_
  rintro e wx ⟨rfl, rfl⟩
  clear a_0 a_1 a_2 a_f a_z b_0 b_1 b_2 b_f b_z
  go_wp2
  go_ret
  exact ⟨rfl, HO.out⟩
set_option maxRecDepth 20000 in
set_option maxHeartbeats 3200000 in
theorem eqHR_same {l l2 : Nat} {a b a2 b2 : Nat → Nat} {h : Hit} (c s : Int) (h1 : Hc l a b h) (h2 : Hc l2 a2 b2 h) (w : World) : Calls Try.prog 36 #[Mv c s l a b, Mv c s l2 a2 b2] w fun e w' => e = .returned (.bool true) ∧ Below w.heap.size w w' := by
  have H1 : Hid (∀ W, Calls Try.prog 69 #[.float .f64 l, .float .f64 l2] W fun e w' => e = .returned (.bool true) ∧ W = w') := fun W => same_any h1.l.lx h2.l.lx (h1.l.c.trans h2.l.c.symm) W
  have H2 : Hid (∀ W, Calls Try.prog 42 #[Rv a, Rv a2] W fun e w' => e = .returned (.bool true) ∧ Below W.heap.size W w') := fun W => eqRay_same h1.a h2.a W
  have H3 : Hid (∀ W, Calls Try.prog 42 #[Rv b, Rv b2] W fun e w' => e = .returned (.bool true) ∧ Below W.heap.size W w') := fun W => eqRay_same h1.b h2.b W
  clear h1 h2
  go_enter Try.func36, Try.ntmps36
  have HO : Hid (Below w.heap.size w w) := Below.refl _ _
  go_upto_region 1 with fail
  obtain ⟨v1, hv⟩ : ∃ X, X = ((w.alloc (.cells #[.int .i64 c, .int .i64 s, .float .f64 l, .float .f64 (a 0), .float .f64 (a 1), .float .f64 (a 2), .float .f64 (a 3), .float .f64 (a 4), .float .f64 (a 5), .float .f64 (b 0), .float .f64 (b 1), .float .f64 (b 2), .float .f64 (b 3), .float .f64 (b 4), .float .f64 (b 5)] 63)).alloc (.cells #[.int .i64 c, .int .i64 s, .float .f64 l2, .float .f64 (a2 0), .float .f64 (a2 1), .float .f64 (a2 2), .float .f64 (a2 3), .float .f64 (a2 4), .float .f64 (a2 5), .float .f64 (b2 0), .float .f64 (b2 1), .float .f64 (b2 2), .float .f64 (b2 3), .float .f64 (b2 4), .float .f64 (b2 5)] 63)) := ⟨_, rfl⟩
  rw [← hv]
  have ne_a_b : Hid (w.heap.size ≠ w.heap.size + 1) := by show (w.heap.size : Nat) ≠ w.heap.size + 1; omega
  have B_a : Hid (Blk v1 (w.heap.size) #[.int .i64 c, .int .i64 s, .float .f64 l, .float .f64 (a 0), .float .f64 (a 1), .float .f64 (a 2), .float .f64 (a 3), .float .f64 (a 4), .float .f64 (a 5), .float .f64 (b 0), .float .f64 (b 1), .float .f64 (b 2), .float .f64 (b 3), .float .f64 (b 4), .float .f64 (b 5)] 63) := by show Blk v1 (w.heap.size) _ _; rw [hv]; exact (Blk.alloc (Blk.new (by simp)) _)
  have low_a : Hid (w.heap.size ≤ w.heap.size) := by show w.heap.size ≤ w.heap.size; have := HO.out.size; omega
  have B_b : Hid (Blk v1 (w.heap.size + 1) #[.int .i64 c, .int .i64 s, .float .f64 l2, .float .f64 (a2 0), .float .f64 (a2 1), .float .f64 (a2 2), .float .f64 (a2 3), .float .f64 (a2 4), .float .f64 (a2 5), .float .f64 (b2 0), .float .f64 (b2 1), .float .f64 (b2 2), .float .f64 (b2 3), .float .f64 (b2 4), .float .f64 (b2 5)] 63) := by show Blk v1 (w.heap.size + 1) _ _; rw [hv]; exact (Blk.new (by simp))
  have low_b : Hid (w.heap.size ≤ w.heap.size + 1) := by show w.heap.size ≤ w.heap.size + 1; have := HO.out.size; omega
  replace HO : Hid (Below w.heap.size w v1) := by show Below w.heap.size w v1; rw [hv]; exact (below_new (below_new HO.out _) _)
  clear hv
  have a_0 := B_a.out.cell (j := 0) rfl
  have a_1 := B_a.out.cell (j := 1) rfl
  have a_2 := B_a.out.cell (j := 2) rfl
  have a_3 := B_a.out.cell (j := 3) rfl
  have a_4 := B_a.out.cell (j := 4) rfl
  have a_5 := B_a.out.cell (j := 5) rfl
  have a_6 := B_a.out.cell (j := 6) rfl
  have a_7 := B_a.out.cell (j := 7) rfl
  have a_8 := B_a.out.cell (j := 8) rfl
  have a_9 := B_a.out.cell (j := 9) rfl
  have a_10 := B_a.out.cell (j := 10) rfl
  have a_11 := B_a.out.cell (j := 11) rfl
  have a_12 := B_a.out.cell (j := 12) rfl
  have a_13 := B_a.out.cell (j := 13) rfl
  have a_14 := B_a.out.cell (j := 14) rfl
  have a_f := B_a.out.frozen
  have a_z := B_a.out.lt
  have b_0 := B_b.out.cell (j := 0) rfl
  have b_1 := B_b.out.cell (j := 1) rfl
  have b_2 := B_b.out.cell (j := 2) rfl
  have b_3 := B_b.out.cell (j := 3) rfl
  have b_4 := B_b.out.cell (j := 4) rfl
  have b_5 := B_b.out.cell (j := 5) rfl
  have b_6 := B_b.out.cell (j := 6) rfl
  have b_7 := B_b.out.cell (j := 7) rfl
  have b_8 := B_b.out.cell (j := 8) rfl
  have b_9 := B_b.out.cell (j := 9) rfl
  have b_10 := B_b.out.cell (j := 10) rfl
  have b_11 := B_b.out.cell (j := 11) rfl
  have b_12 := B_b.out.cell (j := 12) rfl
  have b_13 := B_b.out.cell (j := 13) rfl
  have b_14 := B_b.out.cell (j := 14) rfl
  have b_f := B_b.out.frozen
  have b_z := B_b.out.lt
  go_wp2_with fail
  refine (H1.out _).mono ?_
  rintro e wx ⟨rfl, rfl⟩
  clear a_0 a_1 a_2 a_3 a_4 a_5 a_6 a_7 a_8 a_9 a_10 a_11 a_12 a_13 a_14 a_f a_z b_0 b_1 b_2 b_3 b_4 b_5 b_6 b_7 b_8 b_9 b_10 b_11 b_12 b_13 b_14 b_f b_z
  have a_0 := B_a.out.cell (j := 0) rfl
  have a_1 := B_a.out.cell (j := 1) rfl
  have a_2 := B_a.out.cell (j := 2) rfl
  have a_3 := B_a.out.cell (j := 3) rfl
  have a_4 := B_a.out.cell (j := 4) rfl
  have a_5 := B_a.out.cell (j := 5) rfl
  have a_6 := B_a.out.cell (j := 6) rfl
  have a_7 := B_a.out.cell (j := 7) rfl
  have a_8 := B_a.out.cell (j := 8) rfl
  have a_9 := B_a.out.cell (j := 9) rfl
  have a_10 := B_a.out.cell (j := 10) rfl
  have a_11 := B_a.out.cell (j := 11) rfl
  have a_12 := B_a.out.cell (j := 12) rfl
  have a_13 := B_a.out.cell (j := 13) rfl
  have a_14 := B_a.out.cell (j := 14) rfl
  have a_f := B_a.out.frozen
  have a_z := B_a.out.lt
  have b_0 := B_b.out.cell (j := 0) rfl
  have b_1 := B_b.out.cell (j := 1) rfl
  have b_2 := B_b.out.cell (j := 2) rfl
  have b_3 := B_b.out.cell (j := 3) rfl
  have b_4 := B_b.out.cell (j := 4) rfl
  have b_5 := B_b.out.cell (j := 5) rfl
  have b_6 := B_b.out.cell (j := 6) rfl
  have b_7 := B_b.out.cell (j := 7) rfl
  have b_8 := B_b.out.cell (j := 8) rfl
  have b_9 := B_b.out.cell (j := 9) rfl
  have b_10 := B_b.out.cell (j := 10) rfl
  have b_11 := B_b.out.cell (j := 11) rfl
  have b_12 := B_b.out.cell (j := 12) rfl
  have b_13 := B_b.out.cell (j := 13) rfl
  have b_14 := B_b.out.cell (j := 14) rfl
  have b_f := B_b.out.frozen
  have b_z := B_b.out.lt
  go_wp2_with fail
  refine (H2.out _).mono ?_
  rintro e v2 ⟨rfl, hb⟩
  clear a_0 a_1 a_2 a_3 a_4 a_5 a_6 a_7 a_8 a_9 a_10 a_11 a_12 a_13 a_14 a_f a_z b_0 b_1 b_2 b_3 b_4 b_5 b_6 b_7 b_8 b_9 b_10 b_11 b_12 b_13 b_14 b_f b_z
  replace B_a : Hid (Blk v2 (w.heap.size) #[.int .i64 c, .int .i64 s, .float .f64 l, .float .f64 (a 0), .float .f64 (a 1), .float .f64 (a 2), .float .f64 (a 3), .float .f64 (a 4), .float .f64 (a 5), .float .f64 (b 0), .float .f64 (b 1), .float .f64 (b 2), .float .f64 (b 3), .float .f64 (b 4), .float .f64 (b 5)] 63) := by show Blk v2 (w.heap.size) _ _; exact Blk.old B_a.out hb
  replace B_b : Hid (Blk v2 (w.heap.size + 1) #[.int .i64 c, .int .i64 s, .float .f64 l2, .float .f64 (a2 0), .float .f64 (a2 1), .float .f64 (a2 2), .float .f64 (a2 3), .float .f64 (a2 4), .float .f64 (a2 5), .float .f64 (b2 0), .float .f64 (b2 1), .float .f64 (b2 2), .float .f64 (b2 3), .float .f64 (b2 4), .float .f64 (b2 5)] 63) := by show Blk v2 (w.heap.size + 1) _ _; exact Blk.old B_b.out hb
  replace HO : Hid (Below w.heap.size w v2) := box_step HO.out hb (Nat.le_refl _)
  clear hb
  have a_0 := B_a.out.cell (j := 0) rfl
  have a_1 := B_a.out.cell (j := 1) rfl
  have a_2 := B_a.out.cell (j := 2) rfl
  have a_3 := B_a.out.cell (j := 3) rfl
  have a_4 := B_a.out.cell (j := 4) rfl
  have a_5 := B_a.out.cell (j := 5) rfl
  have a_6 := B_a.out.cell (j := 6) rfl
  have a_7 := B_a.out.cell (j := 7) rfl
  have a_8 := B_a.out.cell (j := 8) rfl
  have a_9 := B_a.out.cell (j := 9) rfl
  have a_10 := B_a.out.cell (j := 10) rfl
  have a_11 := B_a.out.cell (j := 11) rfl
  have a_12 := B_a.out.cell (j := 12) rfl
  have a_13 := B_a.out.cell (j := 13) rfl
  have a_14 := B_a.out.cell (j := 14) rfl
  have a_f := B_a.out.frozen
  have a_z := B_a.out.lt
  have b_0 := B_b.out.cell (j := 0) rfl
  have b_1 := B_b.out.cell (j := 1) rfl
  have b_2 := B_b.out.cell (j := 2) rfl
  have b_3 := B_b.out.cell (j := 3) rfl
  have b_4 := B_b.out.cell (j := 4) rfl
  have b_5 := B_b.out.cell (j := 5) rfl
  have b_6 := B_b.out.cell (j := 6) rfl
  have b_7 := B_b.out.cell (j := 7) rfl
  have b_8 := B_b.out.cell (j := 8) rfl
  have b_9 := B_b.out.cell (j := 9) rfl
  have b_10 := B_b.out.cell (j := 10) rfl
  have b_11 := B_b.out.cell (j := 11) rfl
  have b_12 := B_b.out.cell (j := 12) rfl
  have b_13 := B_b.out.cell (j := 13) rfl
  have b_14 := B_b.out.cell (j := 14) rfl
  have b_f := B_b.out.frozen
  have b_z := B_b.out.lt
  go_wp2_with fail
  refine (H3.out _).mono ?_
  rintro e v3 ⟨rfl, hb⟩
  clear a_0 a_1 a_2 a_3 a_4 a_5 a_6 a_7 a_8 a_9 a_10 a_11 a_12 a_13 a_14 a_f a_z b_0 b_1 b_2 b_3 b_4 b_5 b_6 b_7 b_8 b_9 b_10 b_11 b_12 b_13 b_14 b_f b_z
  replace B_a : Hid (Blk v3 (w.heap.size) #[.int .i64 c, .int .i64 s, .float .f64 l, .float .f64 (a 0), .float .f64 (a 1), .float .f64 (a 2), .float .f64 (a 3), .float .f64 (a 4), .float .f64 (a 5), .float .f64 (b 0), .float .f64 (b 1), .float .f64 (b 2), .float .f64 (b 3), .float .f64 (b 4), .float .f64 (b 5)] 63) := by show Blk v3 (w.heap.size) _ _; exact Blk.old B_a.out hb
  replace B_b : Hid (Blk v3 (w.heap.size + 1) #[.int .i64 c, .int .i64 s, .float .f64 l2, .float .f64 (a2 0), .float .f64 (a2 1), .float .f64 (a2 2), .float .f64 (a2 3), .float .f64 (a2 4), .float .f64 (a2 5), .float .f64 (b2 0), .float .f64 (b2 1), .float .f64 (b2 2), .float .f64 (b2 3), .float .f64 (b2 4), .float .f64 (b2 5)] 63) := by show Blk v3 (w.heap.size + 1) _ _; exact Blk.old B_b.out hb
  replace HO : Hid (Below w.heap.size w v3) := box_step HO.out hb (Nat.le_refl _)
  clear hb
  go_wp2
  go_ret
  exact ⟨rfl, HO.out⟩
end Go.Proofs.Ytjibogknakaokaa
