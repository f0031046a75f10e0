/- The laws' copies and comparisons of rays and faces. -/
import Derived.Test.YtbcidfmfkmeinaaBk
namespace Go.Proofs.Ytbcidfmfkmeinaa
open Go.RowKit Fl
set_option linter.unusedVariables false
set_option linter.unusedSimpArgs false
theorem kold {X W : World} (h : Below X.heap.size X W) {p : Addr} {v : Value} (hv : X.cell? p = some v) : W.cell? p = some v := by rw [h.cell (World.block_lt_of_cell? _ _ hv)]; exact hv
set_option maxRecDepth 20000 in
set_option maxHeartbeats 3200000 in
theorem toRay_any (a : Nat → Nat) (w : World) : Calls Try.prog 7 #[Rv a] w fun e w' => e = .returned (Rv a) ∧ Below w.heap.size w w' := by
  have hst := st64
  go_enter Try.func7, Try.ntmps7
  have HO : Hid (Below w.heap.size w w) := Below.refl _ _
  go_upto_region 1 with fail
  obtain ⟨v1, hv⟩ : ∃ X, X = ((w.alloc (.cells #[.float .f64 (a 0), .float .f64 (a 1), .float .f64 (a 2), .float .f64 (a 3), .float .f64 (a 4), .float .f64 (a 5)] 25)).alloc (.cells #[.float .f64 0, .float .f64 0, .float .f64 0, .float .f64 0, .float .f64 0, .float .f64 0] 33)) := ⟨_, rfl⟩
  rw [← hv]
  have ne_a_r : Hid (w.heap.size ≠ w.heap.size + 1) := by show (w.heap.size : Nat) ≠ w.heap.size + 1; omega
  have B_a : Hid (Blk v1 (w.heap.size) #[.float .f64 (a 0), .float .f64 (a 1), .float .f64 (a 2), .float .f64 (a 3), .float .f64 (a 4), .float .f64 (a 5)] 25) := by show Blk v1 (w.heap.size) _ _; rw [hv]; exact (Blk.alloc (Blk.new (by simp)) _)
  have low_a : Hid (w.heap.size ≤ w.heap.size) := by show w.heap.size ≤ w.heap.size; have := HO.out.size; omega
  have B_r : Hid (Blk v1 (w.heap.size + 1) #[.float .f64 0, .float .f64 0, .float .f64 0, .float .f64 0, .float .f64 0, .float .f64 0] 33) := by show Blk v1 (w.heap.size + 1) _ _; rw [hv]; exact (Blk.new (by simp))
  have low_r : Hid (w.heap.size ≤ w.heap.size + 1) := by show w.heap.size ≤ w.heap.size + 1; have := HO.out.size; omega
  replace HO : Hid (Below w.heap.size w v1) := by show Below w.heap.size w v1; rw [hv]; exact (below_new (below_new HO.out _) _)
  clear hv
  go_upto_region 2 with fail
  obtain ⟨v2, hv⟩ : ∃ X, X = (v1.alloc (.cells #[.float .f64 0, .float .f64 0, .float .f64 0, .float .f64 0, .float .f64 0, .float .f64 0] 33)) := ⟨_, rfl⟩
  rw [← hv]
  have ne_a_o : Hid (w.heap.size ≠ v1.heap.size) := Nat.ne_of_lt (Nat.lt_of_lt_of_le B_a.out.lt (by omega))
  have ne_r_o : Hid (w.heap.size + 1 ≠ v1.heap.size) := Nat.ne_of_lt (Nat.lt_of_lt_of_le B_r.out.lt (by omega))
  have B_o : Hid (Blk v2 (v1.heap.size) #[.float .f64 0, .float .f64 0, .float .f64 0, .float .f64 0, .float .f64 0, .float .f64 0] 33) := by show Blk v2 (v1.heap.size) _ _; rw [hv]; exact (Blk.new (by simp))
  have low_o : Hid (w.heap.size ≤ v1.heap.size) := by show w.heap.size ≤ v1.heap.size; have := HO.out.size; omega
  replace B_a : Hid (Blk v2 (w.heap.size) #[.float .f64 (a 0), .float .f64 (a 1), .float .f64 (a 2), .float .f64 (a 3), .float .f64 (a 4), .float .f64 (a 5)] 25) := by show Blk v2 (w.heap.size) _ _; rw [hv]; exact (Blk.alloc B_a.out _)
  replace B_r : Hid (Blk v2 (w.heap.size + 1) #[.float .f64 0, .float .f64 0, .float .f64 0, .float .f64 0, .float .f64 0, .float .f64 0] 33) := by show Blk v2 (w.heap.size + 1) _ _; rw [hv]; exact (Blk.alloc B_r.out _)
  replace HO : Hid (Below w.heap.size w v2) := by show Below w.heap.size w v2; rw [hv]; exact (below_new HO.out _)
  clear hv
  have a_0 := B_a.out.cell (j := 0) rfl
  have a_1 := B_a.out.cell (j := 1) rfl
  have a_2 := B_a.out.cell (j := 2) rfl
  have a_3 := B_a.out.cell (j := 3) rfl
  have a_4 := B_a.out.cell (j := 4) rfl
  have a_5 := B_a.out.cell (j := 5) rfl
  have a_f := B_a.out.frozen
  have a_z := B_a.out.lt
  have o_0 := B_o.out.cell (j := 0) rfl
  have o_1 := B_o.out.cell (j := 1) rfl
  have o_2 := B_o.out.cell (j := 2) rfl
  have o_3 := B_o.out.cell (j := 3) rfl
  have o_4 := B_o.out.cell (j := 4) rfl
  have o_5 := B_o.out.cell (j := 5) rfl
  have o_f := B_o.out.frozen
  have o_z := B_o.out.lt
  go_upto_region 8 with fail
  clear a_0 a_1 a_2 a_3 a_4 a_5 a_f a_z o_0 o_1 o_2 o_3 o_4 o_5 o_f o_z
  obtain ⟨v3, hv⟩ : ∃ X, X = ((((((v2.setCell ⟨v1.heap.size, 0, none⟩ (.float .f64 (a 0))).setCell ⟨v1.heap.size, 1, none⟩ (.float .f64 (a 1))).setCell ⟨v1.heap.size, 2, none⟩ (.float .f64 (a 2))).setCell ⟨v1.heap.size, 3, none⟩ (.float .f64 (a 3))).setCell ⟨v1.heap.size, 4, none⟩ (.float .f64 (a 4))).setCell ⟨v1.heap.size, 5, none⟩ (.float .f64 (a 5))) := ⟨_, rfl⟩
  rw [← hv]
  replace B_a : Hid (Blk v3 (w.heap.size) #[.float .f64 (a 0), .float .f64 (a 1), .float .f64 (a 2), .float .f64 (a 3), .float .f64 (a 4), .float .f64 (a 5)] 25) := by show Blk v3 (w.heap.size) _ _; rw [hv]; exact (Blk.setOther (Blk.setOther (Blk.setOther (Blk.setOther (Blk.setOther (Blk.setOther B_a.out ne_a_o.out _) ne_a_o.out _) ne_a_o.out _) ne_a_o.out _) ne_a_o.out _) ne_a_o.out _)
  replace B_r : Hid (Blk v3 (w.heap.size + 1) #[.float .f64 0, .float .f64 0, .float .f64 0, .float .f64 0, .float .f64 0, .float .f64 0] 33) := by show Blk v3 (w.heap.size + 1) _ _; rw [hv]; exact (Blk.setOther (Blk.setOther (Blk.setOther (Blk.setOther (Blk.setOther (Blk.setOther B_r.out ne_r_o.out _) ne_r_o.out _) ne_r_o.out _) ne_r_o.out _) ne_r_o.out _) ne_r_o.out _)
  replace B_o : Hid (Blk v3 (v1.heap.size) #[.float .f64 (a 0), .float .f64 (a 1), .float .f64 (a 2), .float .f64 (a 3), .float .f64 (a 4), .float .f64 (a 5)] 33) := by show Blk v3 (v1.heap.size) _ _; rw [hv]; exact (Blk.set (Blk.set (Blk.set (Blk.set (Blk.set (Blk.set B_o.out _ _ rfl) _ _ rfl) _ _ rfl) _ _ rfl) _ _ rfl) _ _ rfl)
  replace HO : Hid (Below w.heap.size w v3) := by show Below w.heap.size w v3; rw [hv]; exact (Below.setCell (Below.setCell (Below.setCell (Below.setCell (Below.setCell (Below.setCell HO.out low_o.out _) low_o.out _) low_o.out _) low_o.out _) low_o.out _) low_o.out _)
  clear hv
  have o_0 := B_o.out.cell (j := 0) rfl
  have o_1 := B_o.out.cell (j := 1) rfl
  have o_2 := B_o.out.cell (j := 2) rfl
  have o_3 := B_o.out.cell (j := 3) rfl
  have o_4 := B_o.out.cell (j := 4) rfl
  have o_5 := B_o.out.cell (j := 5) rfl
  have o_f := B_o.out.frozen
  have o_z := B_o.out.lt
  have r_0 := B_r.out.cell (j := 0) rfl
  have r_1 := B_r.out.cell (j := 1) rfl
  have r_2 := B_r.out.cell (j := 2) rfl
  have r_3 := B_r.out.cell (j := 3) rfl
  have r_4 := B_r.out.cell (j := 4) rfl
  have r_5 := B_r.out.cell (j := 5) rfl
  have r_f := B_r.out.frozen
  have r_z := B_r.out.lt
  go_wp2
  refine bodyPost_ret (v := Rv a) (by simp [results, Try.results7, go_sem, o_0, o_1, o_2, o_3, o_4, o_5, o_f, o_z, r_0, r_1, r_2, r_3, r_4, r_5, r_f, r_z] <;> (repeat' (first | rfl | apply And.intro))) rfl ⟨rfl, ?_⟩
  exact (Below.setCell (Below.setCell (Below.setCell (Below.setCell (Below.setCell (Below.setCell HO.out low_r.out _) low_r.out _) low_r.out _) low_r.out _) low_r.out _) low_r.out _)
set_option maxRecDepth 20000 in
set_option maxHeartbeats 3200000 in
theorem toFace_any (a : Nat → Nat) (w : World) : Calls Try.prog 16 #[Gv a] w fun e w' => e = .returned (Gv a) ∧ Below w.heap.size w w' := by
  have hst := st64
  go_enter Try.func16, Try.ntmps16
  have HO : Hid (Below w.heap.size w w) := Below.refl _ _
  go_upto_region 1 with fail
  obtain ⟨v1, hv⟩ : ∃ X, X = ((w.alloc (.cells #[.float .f64 (a 0), .float .f64 (a 1), .float .f64 (a 2), .float .f64 (a 3), .float .f64 (a 4)] 49)).alloc (.cells #[.float .f64 0, .float .f64 0, .float .f64 0, .float .f64 0, .float .f64 0] 41)) := ⟨_, rfl⟩
  rw [← hv]
  have ne_a_r : Hid (w.heap.size ≠ w.heap.size + 1) := by show (w.heap.size : Nat) ≠ w.heap.size + 1; omega
  have B_a : Hid (Blk v1 (w.heap.size) #[.float .f64 (a 0), .float .f64 (a 1), .float .f64 (a 2), .float .f64 (a 3), .float .f64 (a 4)] 49) := by show Blk v1 (w.heap.size) _ _; rw [hv]; exact (Blk.alloc (Blk.new (by simp)) _)
  have low_a : Hid (w.heap.size ≤ w.heap.size) := by show w.heap.size ≤ w.heap.size; have := HO.out.size; omega
  have B_r : Hid (Blk v1 (w.heap.size + 1) #[.float .f64 0, .float .f64 0, .float .f64 0, .float .f64 0, .float .f64 0] 41) := by show Blk v1 (w.heap.size + 1) _ _; rw [hv]; exact (Blk.new (by simp))
  have low_r : Hid (w.heap.size ≤ w.heap.size + 1) := by show w.heap.size ≤ w.heap.size + 1; have := HO.out.size; omega
  replace HO : Hid (Below w.heap.size w v1) := by show Below w.heap.size w v1; rw [hv]; exact (below_new (below_new HO.out _) _)
  clear hv
  go_upto_region 2 with fail
  obtain ⟨v2, hv⟩ : ∃ X, X = (v1.alloc (.cells #[.float .f64 0, .float .f64 0, .float .f64 0, .float .f64 0, .float .f64 0] 41)) := ⟨_, rfl⟩
  rw [← hv]
  have ne_a_o : Hid (w.heap.size ≠ v1.heap.size) := Nat.ne_of_lt (Nat.lt_of_lt_of_le B_a.out.lt (by omega))
  have ne_r_o : Hid (w.heap.size + 1 ≠ v1.heap.size) := Nat.ne_of_lt (Nat.lt_of_lt_of_le B_r.out.lt (by omega))
  have B_o : Hid (Blk v2 (v1.heap.size) #[.float .f64 0, .float .f64 0, .float .f64 0, .float .f64 0, .float .f64 0] 41) := by show Blk v2 (v1.heap.size) _ _; rw [hv]; exact (Blk.new (by simp))
  have low_o : Hid (w.heap.size ≤ v1.heap.size) := by show w.heap.size ≤ v1.heap.size; have := HO.out.size; omega
  replace B_a : Hid (Blk v2 (w.heap.size) #[.float .f64 (a 0), .float .f64 (a 1), .float .f64 (a 2), .float .f64 (a 3), .float .f64 (a 4)] 49) := by show Blk v2 (w.heap.size) _ _; rw [hv]; exact (Blk.alloc B_a.out _)
  replace B_r : Hid (Blk v2 (w.heap.size + 1) #[.float .f64 0, .float .f64 0, .float .f64 0, .float .f64 0, .float .f64 0] 41) := by show Blk v2 (w.heap.size + 1) _ _; rw [hv]; exact (Blk.alloc B_r.out _)
  replace HO : Hid (Below w.heap.size w v2) := by show Below w.heap.size w v2; rw [hv]; exact (below_new HO.out _)
  clear hv
  have a_0 := B_a.out.cell (j := 0) rfl
  have a_1 := B_a.out.cell (j := 1) rfl
  have a_2 := B_a.out.cell (j := 2) rfl
  have a_3 := B_a.out.cell (j := 3) rfl
  have a_4 := B_a.out.cell (j := 4) rfl
  have a_f := B_a.out.frozen
  have a_z := B_a.out.lt
  have o_0 := B_o.out.cell (j := 0) rfl
  have o_1 := B_o.out.cell (j := 1) rfl
  have o_2 := B_o.out.cell (j := 2) rfl
  have o_3 := B_o.out.cell (j := 3) rfl
  have o_4 := B_o.out.cell (j := 4) rfl
  have o_f := B_o.out.frozen
  have o_z := B_o.out.lt
  go_upto_region 7 with fail
  clear a_0 a_1 a_2 a_3 a_4 a_f a_z o_0 o_1 o_2 o_3 o_4 o_f o_z
  obtain ⟨v3, hv⟩ : ∃ X, X = (((((v2.setCell ⟨v1.heap.size, 0, none⟩ (.float .f64 (a 0))).setCell ⟨v1.heap.size, 1, none⟩ (.float .f64 (a 1))).setCell ⟨v1.heap.size, 2, none⟩ (.float .f64 (a 2))).setCell ⟨v1.heap.size, 3, none⟩ (.float .f64 (a 3))).setCell ⟨v1.heap.size, 4, none⟩ (.float .f64 (a 4))) := ⟨_, rfl⟩
  rw [← hv]
  replace B_a : Hid (Blk v3 (w.heap.size) #[.float .f64 (a 0), .float .f64 (a 1), .float .f64 (a 2), .float .f64 (a 3), .float .f64 (a 4)] 49) := by show Blk v3 (w.heap.size) _ _; rw [hv]; exact (Blk.setOther (Blk.setOther (Blk.setOther (Blk.setOther (Blk.setOther B_a.out ne_a_o.out _) ne_a_o.out _) ne_a_o.out _) ne_a_o.out _) ne_a_o.out _)
  replace B_r : Hid (Blk v3 (w.heap.size + 1) #[.float .f64 0, .float .f64 0, .float .f64 0, .float .f64 0, .float .f64 0] 41) := by show Blk v3 (w.heap.size + 1) _ _; rw [hv]; exact (Blk.setOther (Blk.setOther (Blk.setOther (Blk.setOther (Blk.setOther B_r.out ne_r_o.out _) ne_r_o.out _) ne_r_o.out _) ne_r_o.out _) ne_r_o.out _)
  replace B_o : Hid (Blk v3 (v1.heap.size) #[.float .f64 (a 0), .float .f64 (a 1), .float .f64 (a 2), .float .f64 (a 3), .float .f64 (a 4)] 41) := by show Blk v3 (v1.heap.size) _ _; rw [hv]; exact (Blk.set (Blk.set (Blk.set (Blk.set (Blk.set B_o.out _ _ rfl) _ _ rfl) _ _ rfl) _ _ rfl) _ _ rfl)
  replace HO : Hid (Below w.heap.size w v3) := by show Below w.heap.size w v3; rw [hv]; exact (Below.setCell (Below.setCell (Below.setCell (Below.setCell (Below.setCell HO.out low_o.out _) low_o.out _) low_o.out _) low_o.out _) low_o.out _)
  clear hv
  have o_0 := B_o.out.cell (j := 0) rfl
  have o_1 := B_o.out.cell (j := 1) rfl
  have o_2 := B_o.out.cell (j := 2) rfl
  have o_3 := B_o.out.cell (j := 3) rfl
  have o_4 := B_o.out.cell (j := 4) rfl
  have o_f := B_o.out.frozen
  have o_z := B_o.out.lt
  have r_0 := B_r.out.cell (j := 0) rfl
  have r_1 := B_r.out.cell (j := 1) rfl
  have r_2 := B_r.out.cell (j := 2) rfl
  have r_3 := B_r.out.cell (j := 3) rfl
  have r_4 := B_r.out.cell (j := 4) rfl
  have r_f := B_r.out.frozen
  have r_z := B_r.out.lt
  go_wp2
  refine bodyPost_ret (v := Gv a) (by simp [results, Try.results16, go_sem, o_0, o_1, o_2, o_3, o_4, o_f, o_z, r_0, r_1, r_2, r_3, r_4, r_f, r_z] <;> (repeat' (first | rfl | apply And.intro))) rfl ⟨rfl, ?_⟩
  exact (Below.setCell (Below.setCell (Below.setCell (Below.setCell (Below.setCell HO.out low_r.out _) low_r.out _) low_r.out _) low_r.out _) low_r.out _)
set_option maxRecDepth 20000 in
set_option maxHeartbeats 3200000 in
theorem eqRay_same {a b : Nat → Nat} {A : Nat → Option Nat} (ha : Rc a A) (hb : Rc b A) (w : World) : Calls Try.prog 37 #[Rv a, Rv b] w fun e w' => e = .returned (.bool true) ∧ Below w.heap.size w w' := by
  have HS : Hid (∀ j, j < 6 → ∀ W, Calls Try.prog 19 #[.float .f64 (a j), .float .f64 (b j)] W fun e w' => e = .returned (.bool true) ∧ W = w') := fun j hj W => same_any (ha.h j hj).lx (hb.h j hj).lx ((ha.h j hj).c.trans (hb.h j hj).c.symm) W
  clear ha hb
  go_enter Try.func37, Try.ntmps37
  have HO : Hid (Below w.heap.size w w) := Below.refl _ _
  go_upto_region 1 with fail
  obtain ⟨v1, hv⟩ : ∃ X, X = ((w.alloc (.cells #[.float .f64 (a 0), .float .f64 (a 1), .float .f64 (a 2), .float .f64 (a 3), .float .f64 (a 4), .float .f64 (a 5)] 33)).alloc (.cells #[.float .f64 (b 0), .float .f64 (b 1), .float .f64 (b 2), .float .f64 (b 3), .float .f64 (b 4), .float .f64 (b 5)] 33)) := ⟨_, rfl⟩
  rw [← hv]
  have ne_a_b : Hid (w.heap.size ≠ w.heap.size + 1) := by show (w.heap.size : Nat) ≠ w.heap.size + 1; omega
  have B_a : Hid (Blk v1 (w.heap.size) #[.float .f64 (a 0), .float .f64 (a 1), .float .f64 (a 2), .float .f64 (a 3), .float .f64 (a 4), .float .f64 (a 5)] 33) := by show Blk v1 (w.heap.size) _ _; rw [hv]; exact (Blk.alloc (Blk.new (by simp)) _)
  have low_a : Hid (w.heap.size ≤ w.heap.size) := by show w.heap.size ≤ w.heap.size; have := HO.out.size; omega
  have B_b : Hid (Blk v1 (w.heap.size + 1) #[.float .f64 (b 0), .float .f64 (b 1), .float .f64 (b 2), .float .f64 (b 3), .float .f64 (b 4), .float .f64 (b 5)] 33) := by show Blk v1 (w.heap.size + 1) _ _; rw [hv]; exact (Blk.new (by simp))
  have low_b : Hid (w.heap.size ≤ w.heap.size + 1) := by show w.heap.size ≤ w.heap.size + 1; have := HO.out.size; omega
  replace HO : Hid (Below w.heap.size w v1) := by show Below w.heap.size w v1; rw [hv]; exact (below_new (below_new HO.out _) _)
  clear hv
  have a_0 := B_a.out.cell (j := 0) rfl
  have a_1 := B_a.out.cell (j := 1) rfl
  have a_2 := B_a.out.cell (j := 2) rfl
  have a_3 := B_a.out.cell (j := 3) rfl
  have a_4 := B_a.out.cell (j := 4) rfl
  have a_5 := B_a.out.cell (j := 5) rfl
  have a_f := B_a.out.frozen
  have a_z := B_a.out.lt
  have b_0 := B_b.out.cell (j := 0) rfl
  have b_1 := B_b.out.cell (j := 1) rfl
  have b_2 := B_b.out.cell (j := 2) rfl
  have b_3 := B_b.out.cell (j := 3) rfl
  have b_4 := B_b.out.cell (j := 4) rfl
  have b_5 := B_b.out.cell (j := 5) rfl
  have b_f := B_b.out.frozen
  have b_z := B_b.out.lt
  go_wp2_with fail
  refine (HS.out 0 (by decide) _).mono ?_
  rintro e wx ⟨rfl, rfl⟩
  clear a_0 a_1 a_2 a_3 a_4 a_5 a_f a_z b_0 b_1 b_2 b_3 b_4 b_5 b_f b_z
  have a_0 := B_a.out.cell (j := 0) rfl
  have a_1 := B_a.out.cell (j := 1) rfl
  have a_2 := B_a.out.cell (j := 2) rfl
  have a_3 := B_a.out.cell (j := 3) rfl
  have a_4 := B_a.out.cell (j := 4) rfl
  have a_5 := B_a.out.cell (j := 5) rfl
  have a_f := B_a.out.frozen
  have a_z := B_a.out.lt
  have b_0 := B_b.out.cell (j := 0) rfl
  have b_1 := B_b.out.cell (j := 1) rfl
  have b_2 := B_b.out.cell (j := 2) rfl
  have b_3 := B_b.out.cell (j := 3) rfl
  have b_4 := B_b.out.cell (j := 4) rfl
  have b_5 := B_b.out.cell (j := 5) rfl
  have b_f := B_b.out.frozen
  have b_z := B_b.out.lt
  go_wp2_with fail
  refine (HS.out 1 (by decide) _).mono ?_
  rintro e wx ⟨rfl, rfl⟩
  clear a_0 a_1 a_2 a_3 a_4 a_5 a_f a_z b_0 b_1 b_2 b_3 b_4 b_5 b_f b_z
  have a_0 := B_a.out.cell (j := 0) rfl
  have a_1 := B_a.out.cell (j := 1) rfl
  have a_2 := B_a.out.cell (j := 2) rfl
  have a_3 := B_a.out.cell (j := 3) rfl
  have a_4 := B_a.out.cell (j := 4) rfl
  have a_5 := B_a.out.cell (j := 5) rfl
  have a_f := B_a.out.frozen
  have a_z := B_a.out.lt
  have b_0 := B_b.out.cell (j := 0) rfl
  have b_1 := B_b.out.cell (j := 1) rfl
  have b_2 := B_b.out.cell (j := 2) rfl
  have b_3 := B_b.out.cell (j := 3) rfl
  have b_4 := B_b.out.cell (j := 4) rfl
  have b_5 := B_b.out.cell (j := 5) rfl
  have b_f := B_b.out.frozen
  have b_z := B_b.out.lt
  go_wp2_with fail
  refine (HS.out 2 (by decide) _).mono ?_
  rintro e wx ⟨rfl, rfl⟩
  clear a_0 a_1 a_2 a_3 a_4 a_5 a_f a_z b_0 b_1 b_2 b_3 b_4 b_5 b_f b_z
  have a_0 := B_a.out.cell (j := 0) rfl
  have a_1 := B_a.out.cell (j := 1) rfl
  have a_2 := B_a.out.cell (j := 2) rfl
  have a_3 := B_a.out.cell (j := 3) rfl
  have a_4 := B_a.out.cell (j := 4) rfl
  have a_5 := B_a.out.cell (j := 5) rfl
  have a_f := B_a.out.frozen
  have a_z := B_a.out.lt
  have b_0 := B_b.out.cell (j := 0) rfl
  have b_1 := B_b.out.cell (j := 1) rfl
  have b_2 := B_b.out.cell (j := 2) rfl
  have b_3 := B_b.out.cell (j := 3) rfl
  have b_4 := B_b.out.cell (j := 4) rfl
  have b_5 := B_b.out.cell (j := 5) rfl
  have b_f := B_b.out.frozen
  have b_z := B_b.out.lt
  go_wp2_with fail
  refine (HS.out 3 (by decide) _).mono ?_
  rintro e wx ⟨rfl, rfl⟩
  clear a_0 a_1 a_2 a_3 a_4 a_5 a_f a_z b_0 b_1 b_2 b_3 b_4 b_5 b_f b_z
  have a_0 := B_a.out.cell (j := 0) rfl
  have a_1 := B_a.out.cell (j := 1) rfl
  have a_2 := B_a.out.cell (j := 2) rfl
  have a_3 := B_a.out.cell (j := 3) rfl
  have a_4 := B_a.out.cell (j := 4) rfl
  have a_5 := B_a.out.cell (j := 5) rfl
  have a_f := B_a.out.frozen
  have a_z := B_a.out.lt
  have b_0 := B_b.out.cell (j := 0) rfl
  have b_1 := B_b.out.cell (j := 1) rfl
  have b_2 := B_b.out.cell (j := 2) rfl
  have b_3 := B_b.out.cell (j := 3) rfl
  have b_4 := B_b.out.cell (j := 4) rfl
  have b_5 := B_b.out.cell (j := 5) rfl
  have b_f := B_b.out.frozen
  have b_z := B_b.out.lt
  go_wp2_with fail
  refine (HS.out 4 (by decide) _).mono ?_
  rintro e wx ⟨rfl, rfl⟩
  clear a_0 a_1 a_2 a_3 a_4 a_5 a_f a_z b_0 b_1 b_2 b_3 b_4 b_5 b_f b_z
  have a_0 := B_a.out.cell (j := 0) rfl
  have a_1 := B_a.out.cell (j := 1) rfl
  have a_2 := B_a.out.cell (j := 2) rfl
  have a_3 := B_a.out.cell (j := 3) rfl
  have a_4 := B_a.out.cell (j := 4) rfl
  have a_5 := B_a.out.cell (j := 5) rfl
  have a_f := B_a.out.frozen
  have a_z := B_a.out.lt
  have b_0 := B_b.out.cell (j := 0) rfl
  have b_1 := B_b.out.cell (j := 1) rfl
  have b_2 := B_b.out.cell (j := 2) rfl
  have b_3 := B_b.out.cell (j := 3) rfl
  have b_4 := B_b.out.cell (j := 4) rfl
  have b_5 := B_b.out.cell (j := 5) rfl
  have b_f := B_b.out.frozen
  have b_z := B_b.out.lt
  go_wp2_with fail
  refine (HS.out 5 (by decide) _).mono ?_
  rintro e wx ⟨rfl, rfl⟩
  clear a_0 a_1 a_2 a_3 a_4 a_5 a_f a_z b_0 b_1 b_2 b_3 b_4 b_5 b_f b_z
  go_wp2
  go_ret
  exact ⟨rfl, HO.out⟩
set_option maxRecDepth 20000 in
set_option maxHeartbeats 3200000 in
theorem eqFace_same {a b : Nat → Nat} {A : Nat → Option Nat} (ha : Gc a A) (hb : Gc b A) (w : World) : Calls Try.prog 21 #[Gv a, Gv b] w fun e w' => e = .returned (.bool true) ∧ Below w.heap.size w w' := by
  have HS : Hid (∀ j, j < 5 → ∀ W, Calls Try.prog 19 #[.float .f64 (a j), .float .f64 (b j)] W fun e w' => e = .returned (.bool true) ∧ W = w') := fun j hj W => same_any (ha.h j hj).lx (hb.h j hj).lx ((ha.h j hj).c.trans (hb.h j hj).c.symm) W
  clear ha hb
  go_enter Try.func21, Try.ntmps21
  have HO : Hid (Below w.heap.size w w) := Below.refl _ _
  go_upto_region 1 with fail
  obtain ⟨v1, hv⟩ : ∃ X, X = ((w.alloc (.cells #[.float .f64 (a 0), .float .f64 (a 1), .float .f64 (a 2), .float .f64 (a 3), .float .f64 (a 4)] 41)).alloc (.cells #[.float .f64 (b 0), .float .f64 (b 1), .float .f64 (b 2), .float .f64 (b 3), .float .f64 (b 4)] 41)) := ⟨_, rfl⟩
  rw [← hv]
  have ne_a_b : Hid (w.heap.size ≠ w.heap.size + 1) := by show (w.heap.size : Nat) ≠ w.heap.size + 1; omega
  have B_a : Hid (Blk v1 (w.heap.size) #[.float .f64 (a 0), .float .f64 (a 1), .float .f64 (a 2), .float .f64 (a 3), .float .f64 (a 4)] 41) := by show Blk v1 (w.heap.size) _ _; rw [hv]; exact (Blk.alloc (Blk.new (by simp)) _)
  have low_a : Hid (w.heap.size ≤ w.heap.size) := by show w.heap.size ≤ w.heap.size; have := HO.out.size; omega
  have B_b : Hid (Blk v1 (w.heap.size + 1) #[.float .f64 (b 0), .float .f64 (b 1), .float .f64 (b 2), .float .f64 (b 3), .float .f64 (b 4)] 41) := by show Blk v1 (w.heap.size + 1) _ _; rw [hv]; exact (Blk.new (by simp))
  have low_b : Hid (w.heap.size ≤ w.heap.size + 1) := by show w.heap.size ≤ w.heap.size + 1; have := HO.out.size; omega
  replace HO : Hid (Below w.heap.size w v1) := by show Below w.heap.size w v1; rw [hv]; exact (below_new (below_new HO.out _) _)
  clear hv
  have a_0 := B_a.out.cell (j := 0) rfl
  have a_1 := B_a.out.cell (j := 1) rfl
  have a_2 := B_a.out.cell (j := 2) rfl
  have a_3 := B_a.out.cell (j := 3) rfl
  have a_4 := B_a.out.cell (j := 4) rfl
  have a_f := B_a.out.frozen
  have a_z := B_a.out.lt
  have b_0 := B_b.out.cell (j := 0) rfl
  have b_1 := B_b.out.cell (j := 1) rfl
  have b_2 := B_b.out.cell (j := 2) rfl
  have b_3 := B_b.out.cell (j := 3) rfl
  have b_4 := B_b.out.cell (j := 4) rfl
  have b_f := B_b.out.frozen
  have b_z := B_b.out.lt
  go_wp2_with fail
  refine (HS.out 0 (by decide) _).mono ?_
  rintro e wx ⟨rfl, rfl⟩
  clear a_0 a_1 a_2 a_3 a_4 a_f a_z b_0 b_1 b_2 b_3 b_4 b_f b_z
  have a_0 := B_a.out.cell (j := 0) rfl
  have a_1 := B_a.out.cell (j := 1) rfl
  have a_2 := B_a.out.cell (j := 2) rfl
  have a_3 := B_a.out.cell (j := 3) rfl
  have a_4 := B_a.out.cell (j := 4) rfl
  have a_f := B_a.out.frozen
  have a_z := B_a.out.lt
  have b_0 := B_b.out.cell (j := 0) rfl
  have b_1 := B_b.out.cell (j := 1) rfl
  have b_2 := B_b.out.cell (j := 2) rfl
  have b_3 := B_b.out.cell (j := 3) rfl
  have b_4 := B_b.out.cell (j := 4) rfl
  have b_f := B_b.out.frozen
  have b_z := B_b.out.lt
  go_wp2_with fail
  refine (HS.out 1 (by decide) _).mono ?_
  rintro e wx ⟨rfl, rfl⟩
  clear a_0 a_1 a_2 a_3 a_4 a_f a_z b_0 b_1 b_2 b_3 b_4 b_f b_z
  have a_0 := B_a.out.cell (j := 0) rfl
  have a_1 := B_a.out.cell (j := 1) rfl
  have a_2 := B_a.out.cell (j := 2) rfl
  have a_3 := B_a.out.cell (j := 3) rfl
  have a_4 := B_a.out.cell (j := 4) rfl
  have a_f := B_a.out.frozen
  have a_z := B_a.out.lt
  have b_0 := B_b.out.cell (j := 0) rfl
  have b_1 := B_b.out.cell (j := 1) rfl
  have b_2 := B_b.out.cell (j := 2) rfl
  have b_3 := B_b.out.cell (j := 3) rfl
  have b_4 := B_b.out.cell (j := 4) rfl
  have b_f := B_b.out.frozen
  have b_z := B_b.out.lt
  go_wp2_with fail
  refine (HS.out 2 (by decide) _).mono ?_
  rintro e wx ⟨rfl, rfl⟩
  clear a_0 a_1 a_2 a_3 a_4 a_f a_z b_0 b_1 b_2 b_3 b_4 b_f b_z
  have a_0 := B_a.out.cell (j := 0) rfl
  have a_1 := B_a.out.cell (j := 1) rfl
  have a_2 := B_a.out.cell (j := 2) rfl
  have a_3 := B_a.out.cell (j := 3) rfl
  have a_4 := B_a.out.cell (j := 4) rfl
  have a_f := B_a.out.frozen
  have a_z := B_a.out.lt
  have b_0 := B_b.out.cell (j := 0) rfl
  have b_1 := B_b.out.cell (j := 1) rfl
  have b_2 := B_b.out.cell (j := 2) rfl
  have b_3 := B_b.out.cell (j := 3) rfl
  have b_4 := B_b.out.cell (j := 4) rfl
  have b_f := B_b.out.frozen
  have b_z := B_b.out.lt
  go_wp2_with fail
  refine (HS.out 3 (by decide) _).mono ?_
  rintro e wx ⟨rfl, rfl⟩
  clear a_0 a_1 a_2 a_3 a_4 a_f a_z b_0 b_1 b_2 b_3 b_4 b_f b_z
  have a_0 := B_a.out.cell (j := 0) rfl
  have a_1 := B_a.out.cell (j := 1) rfl
  have a_2 := B_a.out.cell (j := 2) rfl
  have a_3 := B_a.out.cell (j := 3) rfl
  have a_4 := B_a.out.cell (j := 4) rfl
  have a_f := B_a.out.frozen
  have a_z := B_a.out.lt
  have b_0 := B_b.out.cell (j := 0) rfl
  have b_1 := B_b.out.cell (j := 1) rfl
  have b_2 := B_b.out.cell (j := 2) rfl
  have b_3 := B_b.out.cell (j := 3) rfl
  have b_4 := B_b.out.cell (j := 4) rfl
  have b_f := B_b.out.frozen
  have b_z := B_b.out.lt
  go_wp2_with fail
  refine (HS.out 4 (by decide) _).mono ?_
  rintro e wx ⟨rfl, rfl⟩
  clear a_0 a_1 a_2 a_3 a_4 a_f a_z b_0 b_1 b_2 b_3 b_4 b_f b_z
  go_wp2
  go_ret
  exact ⟨rfl, HO.out⟩
end Go.Proofs.Ytbcidfmfkmeinaa
