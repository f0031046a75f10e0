/- The laws' own copies of lights and plates, and their comparisons at equal arguments. -/
import Derived.Test.YtloebnlmeplgbaaFn
import Derived.Handy
namespace Go.Proofs.Ytloebnlmeplgbaa
open Go.RowKit
set_option linter.unusedVariables false
set_option linter.unusedSimpArgs false
set_option maxRecDepth 20000 in
set_option maxHeartbeats 1600000 in
theorem toJ_any (l : Jn) (w : World) : Calls Try.prog 29 #[.agg #[.int .i64 l.x.re, .int .i64 l.x.im, .int .i64 l.y.re, .int .i64 l.y.im]] w fun e w' => e = .returned (.agg #[.int .i64 l.x.re, .int .i64 l.x.im, .int .i64 l.y.re, .int .i64 l.y.im]) ∧ Below w.heap.size w w' := by
  go_enter Try.func29, Try.ntmps29
  have HO : Hid (Below w.heap.size w w) := Below.refl _ _
  go_upto_region 1 with fail
  obtain ⟨v1, hv⟩ : ∃ Xw, Xw = ((w.alloc (.cells #[.int .i64 l.x.re, .int .i64 l.x.im, .int .i64 l.y.re, .int .i64 l.y.im] 49)).alloc (.cells #[.int .i64 0, .int .i64 0, .int .i64 0, .int .i64 0] 29)) := ⟨_, rfl⟩
  rw [← hv]
  have ne_a_r : Hid (w.heap.size ≠ w.heap.size + 1) := by show (w.heap.size : Nat) ≠ w.heap.size + 1; omega
  have B_a : Hid (Blk v1 (w.heap.size) #[.int .i64 l.x.re, .int .i64 l.x.im, .int .i64 l.y.re, .int .i64 l.y.im] 49) := by show Blk v1 (w.heap.size) _ _; rw [hv]; exact (Blk.alloc (Blk.new (by simp)) _)
  have low_a : Hid (w.heap.size ≤ w.heap.size) := by show w.heap.size ≤ w.heap.size; have := HO.out.size; omega
  have B_r : Hid (Blk v1 (w.heap.size + 1) #[.int .i64 0, .int .i64 0, .int .i64 0, .int .i64 0] 29) := by show Blk v1 (w.heap.size + 1) _ _; rw [hv]; exact (Blk.new (by simp))
  have low_r : Hid (w.heap.size ≤ w.heap.size + 1) := by show w.heap.size ≤ w.heap.size + 1; have := HO.out.size; omega
  replace HO : Hid (Below w.heap.size w v1) := by show Below w.heap.size w v1; rw [hv]; exact (below_new (below_new HO.out _) _)
  clear hv
  go_upto_region 2 with fail
  obtain ⟨v2, hv⟩ : ∃ Xw, Xw = (v1.alloc (.cells #[.int .i64 0, .int .i64 0, .int .i64 0, .int .i64 0] 29)) := ⟨_, rfl⟩
  rw [← hv]
  have ne_a_o : Hid (w.heap.size ≠ v1.heap.size) := Nat.ne_of_lt (Nat.lt_of_lt_of_le B_a.out.lt (by omega))
  have ne_r_o : Hid (w.heap.size + 1 ≠ v1.heap.size) := Nat.ne_of_lt (Nat.lt_of_lt_of_le B_r.out.lt (by omega))
  have B_o : Hid (Blk v2 (v1.heap.size) #[.int .i64 0, .int .i64 0, .int .i64 0, .int .i64 0] 29) := by show Blk v2 (v1.heap.size) _ _; rw [hv]; exact (Blk.new (by simp))
  have low_o : Hid (w.heap.size ≤ v1.heap.size) := by show w.heap.size ≤ v1.heap.size; have := HO.out.size; omega
  replace B_a : Hid (Blk v2 (w.heap.size) #[.int .i64 l.x.re, .int .i64 l.x.im, .int .i64 l.y.re, .int .i64 l.y.im] 49) := by show Blk v2 (w.heap.size) _ _; rw [hv]; exact (Blk.alloc B_a.out _)
  replace B_r : Hid (Blk v2 (w.heap.size + 1) #[.int .i64 0, .int .i64 0, .int .i64 0, .int .i64 0] 29) := by show Blk v2 (w.heap.size + 1) _ _; rw [hv]; exact (Blk.alloc B_r.out _)
  replace HO : Hid (Below w.heap.size w v2) := by show Below w.heap.size w v2; rw [hv]; exact (below_new HO.out _)
  clear hv
  have a_0 := B_a.out.cell (j := 0) rfl
  have a_1 := B_a.out.cell (j := 1) rfl
  have a_2 := B_a.out.cell (j := 2) rfl
  have a_3 := B_a.out.cell (j := 3) rfl
  have a_f := B_a.out.frozen
  have a_z := B_a.out.lt
  go_wp2_with fail
  refine (toG_any l.x _).mono ?_
  rintro e v3 ⟨rfl, hb⟩
  clear a_0 a_1 a_2 a_3 a_f a_z
  replace B_a : Hid (Blk v3 (w.heap.size) #[.int .i64 l.x.re, .int .i64 l.x.im, .int .i64 l.y.re, .int .i64 l.y.im] 49) := by show Blk v3 (w.heap.size) _ _; exact Blk.old B_a.out hb
  replace B_r : Hid (Blk v3 (w.heap.size + 1) #[.int .i64 0, .int .i64 0, .int .i64 0, .int .i64 0] 29) := by show Blk v3 (w.heap.size + 1) _ _; exact Blk.old B_r.out hb
  replace B_o : Hid (Blk v3 (v1.heap.size) #[.int .i64 0, .int .i64 0, .int .i64 0, .int .i64 0] 29) := by show Blk v3 (v1.heap.size) _ _; exact Blk.old B_o.out hb
  replace HO : Hid (Below w.heap.size w v3) := box_step HO.out hb (Nat.le_refl _)
  clear hb
  have o_0 := B_o.out.cell (j := 0) rfl
  have o_1 := B_o.out.cell (j := 1) rfl
  have o_2 := B_o.out.cell (j := 2) rfl
  have o_3 := B_o.out.cell (j := 3) rfl
  have o_f := B_o.out.frozen
  have o_z := B_o.out.lt
  go_upto_region 3 with fail
  clear o_0 o_1 o_2 o_3 o_f o_z
  obtain ⟨v4, hv⟩ : ∃ Xw, Xw = ((v3.setCell ⟨v1.heap.size, 0, none⟩ (.int .i64 l.x.re)).setCell ⟨v1.heap.size, 1, none⟩ (.int .i64 l.x.im)) := ⟨_, rfl⟩
  rw [← hv]
  replace B_a : Hid (Blk v4 (w.heap.size) #[.int .i64 l.x.re, .int .i64 l.x.im, .int .i64 l.y.re, .int .i64 l.y.im] 49) := by show Blk v4 (w.heap.size) _ _; rw [hv]; exact (Blk.setOther (Blk.setOther B_a.out ne_a_o.out _) ne_a_o.out _)
  replace B_r : Hid (Blk v4 (w.heap.size + 1) #[.int .i64 0, .int .i64 0, .int .i64 0, .int .i64 0] 29) := by show Blk v4 (w.heap.size + 1) _ _; rw [hv]; exact (Blk.setOther (Blk.setOther B_r.out ne_r_o.out _) ne_r_o.out _)
  replace B_o : Hid (Blk v4 (v1.heap.size) #[.int .i64 l.x.re, .int .i64 l.x.im, .int .i64 0, .int .i64 0] 29) := by show Blk v4 (v1.heap.size) _ _; rw [hv]; exact (Blk.set (Blk.set B_o.out _ _ rfl) _ _ rfl)
  replace HO : Hid (Below w.heap.size w v4) := by show Below w.heap.size w v4; rw [hv]; exact (Below.setCell (Below.setCell HO.out low_o.out _) low_o.out _)
  clear hv
  have a_0 := B_a.out.cell (j := 0) rfl
  have a_1 := B_a.out.cell (j := 1) rfl
  have a_2 := B_a.out.cell (j := 2) rfl
  have a_3 := B_a.out.cell (j := 3) rfl
  have a_f := B_a.out.frozen
  have a_z := B_a.out.lt
  go_wp2_with fail
  refine (toG_any l.y _).mono ?_
  rintro e v5 ⟨rfl, hb⟩
  clear a_0 a_1 a_2 a_3 a_f a_z
  replace B_a : Hid (Blk v5 (w.heap.size) #[.int .i64 l.x.re, .int .i64 l.x.im, .int .i64 l.y.re, .int .i64 l.y.im] 49) := by show Blk v5 (w.heap.size) _ _; exact Blk.old B_a.out hb
  replace B_r : Hid (Blk v5 (w.heap.size + 1) #[.int .i64 0, .int .i64 0, .int .i64 0, .int .i64 0] 29) := by show Blk v5 (w.heap.size + 1) _ _; exact Blk.old B_r.out hb
  replace B_o : Hid (Blk v5 (v1.heap.size) #[.int .i64 l.x.re, .int .i64 l.x.im, .int .i64 0, .int .i64 0] 29) := by show Blk v5 (v1.heap.size) _ _; exact Blk.old B_o.out hb
  replace HO : Hid (Below w.heap.size w v5) := box_step HO.out hb (Nat.le_refl _)
  clear hb
  have o_0 := B_o.out.cell (j := 0) rfl
  have o_1 := B_o.out.cell (j := 1) rfl
  have o_2 := B_o.out.cell (j := 2) rfl
  have o_3 := B_o.out.cell (j := 3) rfl
  have o_f := B_o.out.frozen
  have o_z := B_o.out.lt
  go_upto_region 4 with fail
  clear o_0 o_1 o_2 o_3 o_f o_z
  obtain ⟨v6, hv⟩ : ∃ Xw, Xw = ((v5.setCell ⟨v1.heap.size, 2, none⟩ (.int .i64 l.y.re)).setCell ⟨v1.heap.size, 3, none⟩ (.int .i64 l.y.im)) := ⟨_, rfl⟩
  rw [← hv]
  replace B_a : Hid (Blk v6 (w.heap.size) #[.int .i64 l.x.re, .int .i64 l.x.im, .int .i64 l.y.re, .int .i64 l.y.im] 49) := by show Blk v6 (w.heap.size) _ _; rw [hv]; exact (Blk.setOther (Blk.setOther B_a.out ne_a_o.out _) ne_a_o.out _)
  replace B_r : Hid (Blk v6 (w.heap.size + 1) #[.int .i64 0, .int .i64 0, .int .i64 0, .int .i64 0] 29) := by show Blk v6 (w.heap.size + 1) _ _; rw [hv]; exact (Blk.setOther (Blk.setOther B_r.out ne_r_o.out _) ne_r_o.out _)
  replace B_o : Hid (Blk v6 (v1.heap.size) #[.int .i64 l.x.re, .int .i64 l.x.im, .int .i64 l.y.re, .int .i64 l.y.im] 29) := by show Blk v6 (v1.heap.size) _ _; rw [hv]; exact (Blk.set (Blk.set B_o.out _ _ rfl) _ _ rfl)
  replace HO : Hid (Below w.heap.size w v6) := by show Below w.heap.size w v6; rw [hv]; exact (Below.setCell (Below.setCell HO.out low_o.out _) low_o.out _)
  clear hv
  have o_0 := B_o.out.cell (j := 0) rfl
  have o_1 := B_o.out.cell (j := 1) rfl
  have o_2 := B_o.out.cell (j := 2) rfl
  have o_3 := B_o.out.cell (j := 3) rfl
  have o_f := B_o.out.frozen
  have o_z := B_o.out.lt
  have r_0 := B_r.out.cell (j := 0) rfl
  have r_1 := B_r.out.cell (j := 1) rfl
  have r_2 := B_r.out.cell (j := 2) rfl
  have r_3 := B_r.out.cell (j := 3) rfl
  have r_f := B_r.out.frozen
  have r_z := B_r.out.lt
  go_wp2
  refine bodyPost_ret (v := .agg #[.int .i64 l.x.re, .int .i64 l.x.im, .int .i64 l.y.re, .int .i64 l.y.im]) (by simp [results, Try.results29, go_sem, o_0, o_1, o_2, o_3, o_f, o_z, r_0, r_1, r_2, r_3, r_f, r_z] <;> (repeat' (first | rfl | apply And.intro))) rfl ⟨rfl, ?_⟩
  exact (Below.setCell (Below.setCell (Below.setCell (Below.setCell HO.out low_r.out _) low_r.out _) low_r.out _) low_r.out _)
set_option maxRecDepth 20000 in
set_option maxHeartbeats 1600000 in
theorem toP_any (p : Pl) (w : World) : Calls Try.prog 32 #[.agg #[.int .i64 p.a.re, .int .i64 p.a.im, .int .i64 p.b.re, .int .i64 p.b.im, .int .i64 p.c.re, .int .i64 p.c.im, .int .i64 p.d.re, .int .i64 p.d.im]] w fun e w' => e = .returned (.agg #[.int .i64 p.a.re, .int .i64 p.a.im, .int .i64 p.b.re, .int .i64 p.b.im, .int .i64 p.c.re, .int .i64 p.c.im, .int .i64 p.d.re, .int .i64 p.d.im]) ∧ Below w.heap.size w w' := by
  go_enter Try.func32, Try.ntmps32
  have HO : Hid (Below w.heap.size w w) := Below.refl _ _
  go_upto_region 1 with fail
  obtain ⟨v1, hv⟩ : ∃ Xw, Xw = ((w.alloc (.cells #[.int .i64 p.a.re, .int .i64 p.a.im, .int .i64 p.b.re, .int .i64 p.b.im, .int .i64 p.c.re, .int .i64 p.c.im, .int .i64 p.d.re, .int .i64 p.d.im] 54)).alloc (.cells #[.int .i64 0, .int .i64 0, .int .i64 0, .int .i64 0, .int .i64 0, .int .i64 0, .int .i64 0, .int .i64 0] 27)) := ⟨_, rfl⟩
  rw [← hv]
  have ne_a_r : Hid (w.heap.size ≠ w.heap.size + 1) := by show (w.heap.size : Nat) ≠ w.heap.size + 1; omega
  have B_a : Hid (Blk v1 (w.heap.size) #[.int .i64 p.a.re, .int .i64 p.a.im, .int .i64 p.b.re, .int .i64 p.b.im, .int .i64 p.c.re, .int .i64 p.c.im, .int .i64 p.d.re, .int .i64 p.d.im] 54) := by show Blk v1 (w.heap.size) _ _; rw [hv]; exact (Blk.alloc (Blk.new (by simp)) _)
  have low_a : Hid (w.heap.size ≤ w.heap.size) := by show w.heap.size ≤ w.heap.size; have := HO.out.size; omega
  have B_r : Hid (Blk v1 (w.heap.size + 1) #[.int .i64 0, .int .i64 0, .int .i64 0, .int .i64 0, .int .i64 0, .int .i64 0, .int .i64 0, .int .i64 0] 27) := by show Blk v1 (w.heap.size + 1) _ _; rw [hv]; exact (Blk.new (by simp))
  have low_r : Hid (w.heap.size ≤ w.heap.size + 1) := by show w.heap.size ≤ w.heap.size + 1; have := HO.out.size; omega
  replace HO : Hid (Below w.heap.size w v1) := by show Below w.heap.size w v1; rw [hv]; exact (below_new (below_new HO.out _) _)
  clear hv
  go_upto_region 2 with fail
  obtain ⟨v2, hv⟩ : ∃ Xw, Xw = (v1.alloc (.cells #[.int .i64 0, .int .i64 0, .int .i64 0, .int .i64 0, .int .i64 0, .int .i64 0, .int .i64 0, .int .i64 0] 27)) := ⟨_, rfl⟩
  rw [← hv]
  have ne_a_o : Hid (w.heap.size ≠ v1.heap.size) := Nat.ne_of_lt (Nat.lt_of_lt_of_le B_a.out.lt (by omega))
  have ne_r_o : Hid (w.heap.size + 1 ≠ v1.heap.size) := Nat.ne_of_lt (Nat.lt_of_lt_of_le B_r.out.lt (by omega))
  have B_o : Hid (Blk v2 (v1.heap.size) #[.int .i64 0, .int .i64 0, .int .i64 0, .int .i64 0, .int .i64 0, .int .i64 0, .int .i64 0, .int .i64 0] 27) := by show Blk v2 (v1.heap.size) _ _; rw [hv]; exact (Blk.new (by simp))
  have low_o : Hid (w.heap.size ≤ v1.heap.size) := by show w.heap.size ≤ v1.heap.size; have := HO.out.size; omega
  replace B_a : Hid (Blk v2 (w.heap.size) #[.int .i64 p.a.re, .int .i64 p.a.im, .int .i64 p.b.re, .int .i64 p.b.im, .int .i64 p.c.re, .int .i64 p.c.im, .int .i64 p.d.re, .int .i64 p.d.im] 54) := by show Blk v2 (w.heap.size) _ _; rw [hv]; exact (Blk.alloc B_a.out _)
  replace B_r : Hid (Blk v2 (w.heap.size + 1) #[.int .i64 0, .int .i64 0, .int .i64 0, .int .i64 0, .int .i64 0, .int .i64 0, .int .i64 0, .int .i64 0] 27) := by show Blk v2 (w.heap.size + 1) _ _; rw [hv]; exact (Blk.alloc B_r.out _)
  replace HO : Hid (Below w.heap.size w v2) := by show Below w.heap.size w v2; rw [hv]; exact (below_new HO.out _)
  clear hv
  have a_0 := B_a.out.cell (j := 0) rfl
  have a_1 := B_a.out.cell (j := 1) rfl
  have a_2 := B_a.out.cell (j := 2) rfl
  have a_3 := B_a.out.cell (j := 3) rfl
  have a_4 := B_a.out.cell (j := 4) rfl
  have a_5 := B_a.out.cell (j := 5) rfl
  have a_6 := B_a.out.cell (j := 6) rfl
  have a_7 := B_a.out.cell (j := 7) rfl
  have a_f := B_a.out.frozen
  have a_z := B_a.out.lt
  go_wp2_with fail
  refine (toG_any p.a _).mono ?_
  rintro e v3 ⟨rfl, hb⟩
  clear a_0 a_1 a_2 a_3 a_4 a_5 a_6 a_7 a_f a_z
  replace B_a : Hid (Blk v3 (w.heap.size) #[.int .i64 p.a.re, .int .i64 p.a.im, .int .i64 p.b.re, .int .i64 p.b.im, .int .i64 p.c.re, .int .i64 p.c.im, .int .i64 p.d.re, .int .i64 p.d.im] 54) := by show Blk v3 (w.heap.size) _ _; exact Blk.old B_a.out hb
  replace B_r : Hid (Blk v3 (w.heap.size + 1) #[.int .i64 0, .int .i64 0, .int .i64 0, .int .i64 0, .int .i64 0, .int .i64 0, .int .i64 0, .int .i64 0] 27) := by show Blk v3 (w.heap.size + 1) _ _; exact Blk.old B_r.out hb
  replace B_o : Hid (Blk v3 (v1.heap.size) #[.int .i64 0, .int .i64 0, .int .i64 0, .int .i64 0, .int .i64 0, .int .i64 0, .int .i64 0, .int .i64 0] 27) := by show Blk v3 (v1.heap.size) _ _; exact Blk.old B_o.out hb
  replace HO : Hid (Below w.heap.size w v3) := box_step HO.out hb (Nat.le_refl _)
  clear hb
  have o_0 := B_o.out.cell (j := 0) rfl
  have o_1 := B_o.out.cell (j := 1) rfl
  have o_2 := B_o.out.cell (j := 2) rfl
  have o_3 := B_o.out.cell (j := 3) rfl
  have o_4 := B_o.out.cell (j := 4) rfl
  have o_5 := B_o.out.cell (j := 5) rfl
  have o_6 := B_o.out.cell (j := 6) rfl
  have o_7 := B_o.out.cell (j := 7) rfl
  have o_f := B_o.out.frozen
  have o_z := B_o.out.lt
  go_upto_region 3 with fail
  clear o_0 o_1 o_2 o_3 o_4 o_5 o_6 o_7 o_f o_z
  obtain ⟨v4, hv⟩ : ∃ Xw, Xw = ((v3.setCell ⟨v1.heap.size, 0, none⟩ (.int .i64 p.a.re)).setCell ⟨v1.heap.size, 1, none⟩ (.int .i64 p.a.im)) := ⟨_, rfl⟩
  rw [← hv]
  replace B_a : Hid (Blk v4 (w.heap.size) #[.int .i64 p.a.re, .int .i64 p.a.im, .int .i64 p.b.re, .int .i64 p.b.im, .int .i64 p.c.re, .int .i64 p.c.im, .int .i64 p.d.re, .int .i64 p.d.im] 54) := by show Blk v4 (w.heap.size) _ _; rw [hv]; exact (Blk.setOther (Blk.setOther B_a.out ne_a_o.out _) ne_a_o.out _)
  replace B_r : Hid (Blk v4 (w.heap.size + 1) #[.int .i64 0, .int .i64 0, .int .i64 0, .int .i64 0, .int .i64 0, .int .i64 0, .int .i64 0, .int .i64 0] 27) := by show Blk v4 (w.heap.size + 1) _ _; rw [hv]; exact (Blk.setOther (Blk.setOther B_r.out ne_r_o.out _) ne_r_o.out _)
  replace B_o : Hid (Blk v4 (v1.heap.size) #[.int .i64 p.a.re, .int .i64 p.a.im, .int .i64 0, .int .i64 0, .int .i64 0, .int .i64 0, .int .i64 0, .int .i64 0] 27) := by show Blk v4 (v1.heap.size) _ _; rw [hv]; exact (Blk.set (Blk.set B_o.out _ _ rfl) _ _ rfl)
  replace HO : Hid (Below w.heap.size w v4) := by show Below w.heap.size w v4; rw [hv]; exact (Below.setCell (Below.setCell HO.out low_o.out _) low_o.out _)
  clear hv
  have a_0 := B_a.out.cell (j := 0) rfl
  have a_1 := B_a.out.cell (j := 1) rfl
  have a_2 := B_a.out.cell (j := 2) rfl
  have a_3 := B_a.out.cell (j := 3) rfl
  have a_4 := B_a.out.cell (j := 4) rfl
  have a_5 := B_a.out.cell (j := 5) rfl
  have a_6 := B_a.out.cell (j := 6) rfl
  have a_7 := B_a.out.cell (j := 7) rfl
  have a_f := B_a.out.frozen
  have a_z := B_a.out.lt
  go_wp2_with fail
  refine (toG_any p.b _).mono ?_
  rintro e v5 ⟨rfl, hb⟩
  clear a_0 a_1 a_2 a_3 a_4 a_5 a_6 a_7 a_f a_z
  replace B_a : Hid (Blk v5 (w.heap.size) #[.int .i64 p.a.re, .int .i64 p.a.im, .int .i64 p.b.re, .int .i64 p.b.im, .int .i64 p.c.re, .int .i64 p.c.im, .int .i64 p.d.re, .int .i64 p.d.im] 54) := by show Blk v5 (w.heap.size) _ _; exact Blk.old B_a.out hb
  replace B_r : Hid (Blk v5 (w.heap.size + 1) #[.int .i64 0, .int .i64 0, .int .i64 0, .int .i64 0, .int .i64 0, .int .i64 0, .int .i64 0, .int .i64 0] 27) := by show Blk v5 (w.heap.size + 1) _ _; exact Blk.old B_r.out hb
  replace B_o : Hid (Blk v5 (v1.heap.size) #[.int .i64 p.a.re, .int .i64 p.a.im, .int .i64 0, .int .i64 0, .int .i64 0, .int .i64 0, .int .i64 0, .int .i64 0] 27) := by show Blk v5 (v1.heap.size) _ _; exact Blk.old B_o.out hb
  replace HO : Hid (Below w.heap.size w v5) := box_step HO.out hb (Nat.le_refl _)
  clear hb
  have o_0 := B_o.out.cell (j := 0) rfl
  have o_1 := B_o.out.cell (j := 1) rfl
  have o_2 := B_o.out.cell (j := 2) rfl
  have o_3 := B_o.out.cell (j := 3) rfl
  have o_4 := B_o.out.cell (j := 4) rfl
  have o_5 := B_o.out.cell (j := 5) rfl
  have o_6 := B_o.out.cell (j := 6) rfl
  have o_7 := B_o.out.cell (j := 7) rfl
  have o_f := B_o.out.frozen
  have o_z := B_o.out.lt
  go_upto_region 4 with fail
  clear o_0 o_1 o_2 o_3 o_4 o_5 o_6 o_7 o_f o_z
  obtain ⟨v6, hv⟩ : ∃ Xw, Xw = ((v5.setCell ⟨v1.heap.size, 2, none⟩ (.int .i64 p.b.re)).setCell ⟨v1.heap.size, 3, none⟩ (.int .i64 p.b.im)) := ⟨_, rfl⟩
  rw [← hv]
  replace B_a : Hid (Blk v6 (w.heap.size) #[.int .i64 p.a.re, .int .i64 p.a.im, .int .i64 p.b.re, .int .i64 p.b.im, .int .i64 p.c.re, .int .i64 p.c.im, .int .i64 p.d.re, .int .i64 p.d.im] 54) := by show Blk v6 (w.heap.size) _ _; rw [hv]; exact (Blk.setOther (Blk.setOther B_a.out ne_a_o.out _) ne_a_o.out _)
  replace B_r : Hid (Blk v6 (w.heap.size + 1) #[.int .i64 0, .int .i64 0, .int .i64 0, .int .i64 0, .int .i64 0, .int .i64 0, .int .i64 0, .int .i64 0] 27) := by show Blk v6 (w.heap.size + 1) _ _; rw [hv]; exact (Blk.setOther (Blk.setOther B_r.out ne_r_o.out _) ne_r_o.out _)
  replace B_o : Hid (Blk v6 (v1.heap.size) #[.int .i64 p.a.re, .int .i64 p.a.im, .int .i64 p.b.re, .int .i64 p.b.im, .int .i64 0, .int .i64 0, .int .i64 0, .int .i64 0] 27) := by show Blk v6 (v1.heap.size) _ _; rw [hv]; exact (Blk.set (Blk.set B_o.out _ _ rfl) _ _ rfl)
  replace HO : Hid (Below w.heap.size w v6) := by show Below w.heap.size w v6; rw [hv]; exact (Below.setCell (Below.setCell HO.out low_o.out _) low_o.out _)
  clear hv
  have a_0 := B_a.out.cell (j := 0) rfl
  have a_1 := B_a.out.cell (j := 1) rfl
  have a_2 := B_a.out.cell (j := 2) rfl
  have a_3 := B_a.out.cell (j := 3) rfl
  have a_4 := B_a.out.cell (j := 4) rfl
  have a_5 := B_a.out.cell (j := 5) rfl
  have a_6 := B_a.out.cell (j := 6) rfl
  have a_7 := B_a.out.cell (j := 7) rfl
  have a_f := B_a.out.frozen
  have a_z := B_a.out.lt
  go_wp2_with fail
  refine (toG_any p.c _).mono ?_
  rintro e v7 ⟨rfl, hb⟩
  clear a_0 a_1 a_2 a_3 a_4 a_5 a_6 a_7 a_f a_z
  replace B_a : Hid (Blk v7 (w.heap.size) #[.int .i64 p.a.re, .int .i64 p.a.im, .int .i64 p.b.re, .int .i64 p.b.im, .int .i64 p.c.re, .int .i64 p.c.im, .int .i64 p.d.re, .int .i64 p.d.im] 54) := by show Blk v7 (w.heap.size) _ _; exact Blk.old B_a.out hb
  replace B_r : Hid (Blk v7 (w.heap.size + 1) #[.int .i64 0, .int .i64 0, .int .i64 0, .int .i64 0, .int .i64 0, .int .i64 0, .int .i64 0, .int .i64 0] 27) := by show Blk v7 (w.heap.size + 1) _ _; exact Blk.old B_r.out hb
  replace B_o : Hid (Blk v7 (v1.heap.size) #[.int .i64 p.a.re, .int .i64 p.a.im, .int .i64 p.b.re, .int .i64 p.b.im, .int .i64 0, .int .i64 0, .int .i64 0, .int .i64 0] 27) := by show Blk v7 (v1.heap.size) _ _; exact Blk.old B_o.out hb
  replace HO : Hid (Below w.heap.size w v7) := box_step HO.out hb (Nat.le_refl _)
  clear hb
  have o_0 := B_o.out.cell (j := 0) rfl
  have o_1 := B_o.out.cell (j := 1) rfl
  have o_2 := B_o.out.cell (j := 2) rfl
  have o_3 := B_o.out.cell (j := 3) rfl
  have o_4 := B_o.out.cell (j := 4) rfl
  have o_5 := B_o.out.cell (j := 5) rfl
  have o_6 := B_o.out.cell (j := 6) rfl
  have o_7 := B_o.out.cell (j := 7) rfl
  have o_f := B_o.out.frozen
  have o_z := B_o.out.lt
  go_upto_region 5 with fail
  clear o_0 o_1 o_2 o_3 o_4 o_5 o_6 o_7 o_f o_z
  obtain ⟨v8, hv⟩ : ∃ Xw, Xw = ((v7.setCell ⟨v1.heap.size, 4, none⟩ (.int .i64 p.c.re)).setCell ⟨v1.heap.size, 5, none⟩ (.int .i64 p.c.im)) := ⟨_, rfl⟩
  rw [← hv]
  replace B_a : Hid (Blk v8 (w.heap.size) #[.int .i64 p.a.re, .int .i64 p.a.im, .int .i64 p.b.re, .int .i64 p.b.im, .int .i64 p.c.re, .int .i64 p.c.im, .int .i64 p.d.re, .int .i64 p.d.im] 54) := by show Blk v8 (w.heap.size) _ _; rw [hv]; exact (Blk.setOther (Blk.setOther B_a.out ne_a_o.out _) ne_a_o.out _)
  replace B_r : Hid (Blk v8 (w.heap.size + 1) #[.int .i64 0, .int .i64 0, .int .i64 0, .int .i64 0, .int .i64 0, .int .i64 0, .int .i64 0, .int .i64 0] 27) := by show Blk v8 (w.heap.size + 1) _ _; rw [hv]; exact (Blk.setOther (Blk.setOther B_r.out ne_r_o.out _) ne_r_o.out _)
  replace B_o : Hid (Blk v8 (v1.heap.size) #[.int .i64 p.a.re, .int .i64 p.a.im, .int .i64 p.b.re, .int .i64 p.b.im, .int .i64 p.c.re, .int .i64 p.c.im, .int .i64 0, .int .i64 0] 27) := by show Blk v8 (v1.heap.size) _ _; rw [hv]; exact (Blk.set (Blk.set B_o.out _ _ rfl) _ _ rfl)
  replace HO : Hid (Below w.heap.size w v8) := by show Below w.heap.size w v8; rw [hv]; exact (Below.setCell (Below.setCell HO.out low_o.out _) low_o.out _)
  clear hv
  have a_0 := B_a.out.cell (j := 0) rfl
  have a_1 := B_a.out.cell (j := 1) rfl
  have a_2 := B_a.out.cell (j := 2) rfl
  have a_3 := B_a.out.cell (j := 3) rfl
  have a_4 := B_a.out.cell (j := 4) rfl
  have a_5 := B_a.out.cell (j := 5) rfl
  have a_6 := B_a.out.cell (j := 6) rfl
  have a_7 := B_a.out.cell (j := 7) rfl
  have a_f := B_a.out.frozen
  have a_z := B_a.out.lt
  go_wp2_with fail
  refine (toG_any p.d _).mono ?_
  rintro e v9 ⟨rfl, hb⟩
  clear a_0 a_1 a_2 a_3 a_4 a_5 a_6 a_7 a_f a_z
  replace B_a : Hid (Blk v9 (w.heap.size) #[.int .i64 p.a.re, .int .i64 p.a.im, .int .i64 p.b.re, .int .i64 p.b.im, .int .i64 p.c.re, .int .i64 p.c.im, .int .i64 p.d.re, .int .i64 p.d.im] 54) := by show Blk v9 (w.heap.size) _ _; exact Blk.old B_a.out hb
  replace B_r : Hid (Blk v9 (w.heap.size + 1) #[.int .i64 0, .int .i64 0, .int .i64 0, .int .i64 0, .int .i64 0, .int .i64 0, .int .i64 0, .int .i64 0] 27) := by show Blk v9 (w.heap.size + 1) _ _; exact Blk.old B_r.out hb
  replace B_o : Hid (Blk v9 (v1.heap.size) #[.int .i64 p.a.re, .int .i64 p.a.im, .int .i64 p.b.re, .int .i64 p.b.im, .int .i64 p.c.re, .int .i64 p.c.im, .int .i64 0, .int .i64 0] 27) := by show Blk v9 (v1.heap.size) _ _; exact Blk.old B_o.out hb
  replace HO : Hid (Below w.heap.size w v9) := box_step HO.out hb (Nat.le_refl _)
  clear hb
  have o_0 := B_o.out.cell (j := 0) rfl
  have o_1 := B_o.out.cell (j := 1) rfl
  have o_2 := B_o.out.cell (j := 2) rfl
  have o_3 := B_o.out.cell (j := 3) rfl
  have o_4 := B_o.out.cell (j := 4) rfl
  have o_5 := B_o.out.cell (j := 5) rfl
  have o_6 := B_o.out.cell (j := 6) rfl
  have o_7 := B_o.out.cell (j := 7) rfl
  have o_f := B_o.out.frozen
  have o_z := B_o.out.lt
  go_upto_region 6 with fail
  clear o_0 o_1 o_2 o_3 o_4 o_5 o_6 o_7 o_f o_z
  obtain ⟨v10, hv⟩ : ∃ Xw, Xw = ((v9.setCell ⟨v1.heap.size, 6, none⟩ (.int .i64 p.d.re)).setCell ⟨v1.heap.size, 7, none⟩ (.int .i64 p.d.im)) := ⟨_, rfl⟩
  rw [← hv]
  replace B_a : Hid (Blk v10 (w.heap.size) #[.int .i64 p.a.re, .int .i64 p.a.im, .int .i64 p.b.re, .int .i64 p.b.im, .int .i64 p.c.re, .int .i64 p.c.im, .int .i64 p.d.re, .int .i64 p.d.im] 54) := by show Blk v10 (w.heap.size) _ _; rw [hv]; exact (Blk.setOther (Blk.setOther B_a.out ne_a_o.out _) ne_a_o.out _)
  replace B_r : Hid (Blk v10 (w.heap.size + 1) #[.int .i64 0, .int .i64 0, .int .i64 0, .int .i64 0, .int .i64 0, .int .i64 0, .int .i64 0, .int .i64 0] 27) := by show Blk v10 (w.heap.size + 1) _ _; rw [hv]; exact (Blk.setOther (Blk.setOther B_r.out ne_r_o.out _) ne_r_o.out _)
  replace B_o : Hid (Blk v10 (v1.heap.size) #[.int .i64 p.a.re, .int .i64 p.a.im, .int .i64 p.b.re, .int .i64 p.b.im, .int .i64 p.c.re, .int .i64 p.c.im, .int .i64 p.d.re, .int .i64 p.d.im] 27) := by show Blk v10 (v1.heap.size) _ _; rw [hv]; exact (Blk.set (Blk.set B_o.out _ _ rfl) _ _ rfl)
  replace HO : Hid (Below w.heap.size w v10) := by show Below w.heap.size w v10; rw [hv]; exact (Below.setCell (Below.setCell HO.out low_o.out _) low_o.out _)
  clear hv
  have o_0 := B_o.out.cell (j := 0) rfl
  have o_1 := B_o.out.cell (j := 1) rfl
  have o_2 := B_o.out.cell (j := 2) rfl
  have o_3 := B_o.out.cell (j := 3) rfl
  have o_4 := B_o.out.cell (j := 4) rfl
  have o_5 := B_o.out.cell (j := 5) rfl
  have o_6 := B_o.out.cell (j := 6) rfl
  have o_7 := B_o.out.cell (j := 7) rfl
  have o_f := B_o.out.frozen
  have o_z := B_o.out.lt
  have r_0 := B_r.out.cell (j := 0) rfl
  have r_1 := B_r.out.cell (j := 1) rfl
  have r_2 := B_r.out.cell (j := 2) rfl
  have r_3 := B_r.out.cell (j := 3) rfl
  have r_4 := B_r.out.cell (j := 4) rfl
  have r_5 := B_r.out.cell (j := 5) rfl
  have r_6 := B_r.out.cell (j := 6) rfl
  have r_7 := B_r.out.cell (j := 7) rfl
  have r_f := B_r.out.frozen
  have r_z := B_r.out.lt
  go_wp2
  refine bodyPost_ret (v := .agg #[.int .i64 p.a.re, .int .i64 p.a.im, .int .i64 p.b.re, .int .i64 p.b.im, .int .i64 p.c.re, .int .i64 p.c.im, .int .i64 p.d.re, .int .i64 p.d.im]) (by simp [results, Try.results32, go_sem, o_0, o_1, o_2, o_3, o_4, o_5, o_6, o_7, o_f, o_z, r_0, r_1, r_2, r_3, r_4, r_5, r_6, r_7, r_f, r_z] <;> (repeat' (first | rfl | apply And.intro))) rfl ⟨rfl, ?_⟩
  exact (Below.setCell (Below.setCell (Below.setCell (Below.setCell (Below.setCell (Below.setCell (Below.setCell (Below.setCell HO.out low_r.out _) low_r.out _) low_r.out _) low_r.out _) low_r.out _) low_r.out _) low_r.out _) low_r.out _)
set_option maxRecDepth 20000 in
set_option maxHeartbeats 1600000 in
theorem eqP_same (a b c d : Gz) (w : World) : Calls Try.prog 36 #[.agg #[.int .i64 a.re, .int .i64 a.im, .int .i64 b.re, .int .i64 b.im, .int .i64 c.re, .int .i64 c.im, .int .i64 d.re, .int .i64 d.im], .agg #[.int .i64 a.re, .int .i64 a.im, .int .i64 b.re, .int .i64 b.im, .int .i64 c.re, .int .i64 c.im, .int .i64 d.re, .int .i64 d.im]] w fun e w' => e = .returned (.bool true) ∧ Below w.heap.size w w' := by
  go_enter Try.func36, Try.ntmps36
  have HO : Hid (Below w.heap.size w w) := Below.refl _ _
  go_upto_region 1 with fail
  obtain ⟨v1, hv⟩ : ∃ Xw, Xw = ((w.alloc (.cells #[.int .i64 a.re, .int .i64 a.im, .int .i64 b.re, .int .i64 b.im, .int .i64 c.re, .int .i64 c.im, .int .i64 d.re, .int .i64 d.im] 27)).alloc (.cells #[.int .i64 a.re, .int .i64 a.im, .int .i64 b.re, .int .i64 b.im, .int .i64 c.re, .int .i64 c.im, .int .i64 d.re, .int .i64 d.im] 27)) := ⟨_, rfl⟩
  rw [← hv]
  have ne_a_b : Hid (w.heap.size ≠ w.heap.size + 1) := by show (w.heap.size : Nat) ≠ w.heap.size + 1; omega
  have B_a : Hid (Blk v1 (w.heap.size) #[.int .i64 a.re, .int .i64 a.im, .int .i64 b.re, .int .i64 b.im, .int .i64 c.re, .int .i64 c.im, .int .i64 d.re, .int .i64 d.im] 27) := by show Blk v1 (w.heap.size) _ _; rw [hv]; exact (Blk.alloc (Blk.new (by simp)) _)
  have low_a : Hid (w.heap.size ≤ w.heap.size) := by show w.heap.size ≤ w.heap.size; have := HO.out.size; omega
  have B_b : Hid (Blk v1 (w.heap.size + 1) #[.int .i64 a.re, .int .i64 a.im, .int .i64 b.re, .int .i64 b.im, .int .i64 c.re, .int .i64 c.im, .int .i64 d.re, .int .i64 d.im] 27) := by show Blk v1 (w.heap.size + 1) _ _; rw [hv]; exact (Blk.new (by simp))
  have low_b : Hid (w.heap.size ≤ w.heap.size + 1) := by show w.heap.size ≤ w.heap.size + 1; have := HO.out.size; omega
  replace HO : Hid (Below w.heap.size w v1) := by show Below w.heap.size w v1; rw [hv]; exact (below_new (below_new HO.out _) _)
  clear hv
  have a_0 := B_a.out.cell (j := 0) rfl
  have a_1 := B_a.out.cell (j := 1) rfl
  have a_2 := B_a.out.cell (j := 2) rfl
  have a_3 := B_a.out.cell (j := 3) rfl
  have a_4 := B_a.out.cell (j := 4) rfl
  have a_5 := B_a.out.cell (j := 5) rfl
  have a_6 := B_a.out.cell (j := 6) rfl
  have a_7 := B_a.out.cell (j := 7) rfl
  have a_f := B_a.out.frozen
  have a_z := B_a.out.lt
  have b_0 := B_b.out.cell (j := 0) rfl
  have b_1 := B_b.out.cell (j := 1) rfl
  have b_2 := B_b.out.cell (j := 2) rfl
  have b_3 := B_b.out.cell (j := 3) rfl
  have b_4 := B_b.out.cell (j := 4) rfl
  have b_5 := B_b.out.cell (j := 5) rfl
  have b_6 := B_b.out.cell (j := 6) rfl
  have b_7 := B_b.out.cell (j := 7) rfl
  have b_f := B_b.out.frozen
  have b_z := B_b.out.lt
  go_wp2_with fail
  refine (eqG_same a _).mono ?_
  rintro e v2 ⟨rfl, hb⟩
  clear a_0 a_1 a_2 a_3 a_4 a_5 a_6 a_7 a_f a_z b_0 b_1 b_2 b_3 b_4 b_5 b_6 b_7 b_f b_z
  replace B_a : Hid (Blk v2 (w.heap.size) #[.int .i64 a.re, .int .i64 a.im, .int .i64 b.re, .int .i64 b.im, .int .i64 c.re, .int .i64 c.im, .int .i64 d.re, .int .i64 d.im] 27) := by show Blk v2 (w.heap.size) _ _; exact Blk.old B_a.out hb
  replace B_b : Hid (Blk v2 (w.heap.size + 1) #[.int .i64 a.re, .int .i64 a.im, .int .i64 b.re, .int .i64 b.im, .int .i64 c.re, .int .i64 c.im, .int .i64 d.re, .int .i64 d.im] 27) := by show Blk v2 (w.heap.size + 1) _ _; exact Blk.old B_b.out hb
  replace HO : Hid (Below w.heap.size w v2) := box_step HO.out hb (Nat.le_refl _)
  clear hb
  go_upto_region 3 with fail
  have a_0 := B_a.out.cell (j := 0) rfl
  have a_1 := B_a.out.cell (j := 1) rfl
  have a_2 := B_a.out.cell (j := 2) rfl
  have a_3 := B_a.out.cell (j := 3) rfl
  have a_4 := B_a.out.cell (j := 4) rfl
  have a_5 := B_a.out.cell (j := 5) rfl
  have a_6 := B_a.out.cell (j := 6) rfl
  have a_7 := B_a.out.cell (j := 7) rfl
  have a_f := B_a.out.frozen
  have a_z := B_a.out.lt
  have b_0 := B_b.out.cell (j := 0) rfl
  have b_1 := B_b.out.cell (j := 1) rfl
  have b_2 := B_b.out.cell (j := 2) rfl
  have b_3 := B_b.out.cell (j := 3) rfl
  have b_4 := B_b.out.cell (j := 4) rfl
  have b_5 := B_b.out.cell (j := 5) rfl
  have b_6 := B_b.out.cell (j := 6) rfl
  have b_7 := B_b.out.cell (j := 7) rfl
  have b_f := B_b.out.frozen
  have b_z := B_b.out.lt
  go_wp2_with fail
  refine (eqG_same b _).mono ?_
  rintro e v3 ⟨rfl, hb⟩
  clear a_0 a_1 a_2 a_3 a_4 a_5 a_6 a_7 a_f a_z b_0 b_1 b_2 b_3 b_4 b_5 b_6 b_7 b_f b_z
  replace B_a : Hid (Blk v3 (w.heap.size) #[.int .i64 a.re, .int .i64 a.im, .int .i64 b.re, .int .i64 b.im, .int .i64 c.re, .int .i64 c.im, .int .i64 d.re, .int .i64 d.im] 27) := by show Blk v3 (w.heap.size) _ _; exact Blk.old B_a.out hb
  replace B_b : Hid (Blk v3 (w.heap.size + 1) #[.int .i64 a.re, .int .i64 a.im, .int .i64 b.re, .int .i64 b.im, .int .i64 c.re, .int .i64 c.im, .int .i64 d.re, .int .i64 d.im] 27) := by show Blk v3 (w.heap.size + 1) _ _; exact Blk.old B_b.out hb
  replace HO : Hid (Below w.heap.size w v3) := box_step HO.out hb (Nat.le_refl _)
  clear hb
  go_upto_region 5 with fail
  have a_0 := B_a.out.cell (j := 0) rfl
  have a_1 := B_a.out.cell (j := 1) rfl
  have a_2 := B_a.out.cell (j := 2) rfl
  have a_3 := B_a.out.cell (j := 3) rfl
  have a_4 := B_a.out.cell (j := 4) rfl
  have a_5 := B_a.out.cell (j := 5) rfl
  have a_6 := B_a.out.cell (j := 6) rfl
  have a_7 := B_a.out.cell (j := 7) rfl
  have a_f := B_a.out.frozen
  have a_z := B_a.out.lt
  have b_0 := B_b.out.cell (j := 0) rfl
  have b_1 := B_b.out.cell (j := 1) rfl
  have b_2 := B_b.out.cell (j := 2) rfl
  have b_3 := B_b.out.cell (j := 3) rfl
  have b_4 := B_b.out.cell (j := 4) rfl
  have b_5 := B_b.out.cell (j := 5) rfl
  have b_6 := B_b.out.cell (j := 6) rfl
  have b_7 := B_b.out.cell (j := 7) rfl
  have b_f := B_b.out.frozen
  have b_z := B_b.out.lt
  go_wp2_with fail
  refine (eqG_same c _).mono ?_
  rintro e v4 ⟨rfl, hb⟩
  clear a_0 a_1 a_2 a_3 a_4 a_5 a_6 a_7 a_f a_z b_0 b_1 b_2 b_3 b_4 b_5 b_6 b_7 b_f b_z
  replace B_a : Hid (Blk v4 (w.heap.size) #[.int .i64 a.re, .int .i64 a.im, .int .i64 b.re, .int .i64 b.im, .int .i64 c.re, .int .i64 c.im, .int .i64 d.re, .int .i64 d.im] 27) := by show Blk v4 (w.heap.size) _ _; exact Blk.old B_a.out hb
  replace B_b : Hid (Blk v4 (w.heap.size + 1) #[.int .i64 a.re, .int .i64 a.im, .int .i64 b.re, .int .i64 b.im, .int .i64 c.re, .int .i64 c.im, .int .i64 d.re, .int .i64 d.im] 27) := by show Blk v4 (w.heap.size + 1) _ _; exact Blk.old B_b.out hb
  replace HO : Hid (Below w.heap.size w v4) := box_step HO.out hb (Nat.le_refl _)
  clear hb
  go_upto_region 7 with fail
  have a_0 := B_a.out.cell (j := 0) rfl
  have a_1 := B_a.out.cell (j := 1) rfl
  have a_2 := B_a.out.cell (j := 2) rfl
  have a_3 := B_a.out.cell (j := 3) rfl
  have a_4 := B_a.out.cell (j := 4) rfl
  have a_5 := B_a.out.cell (j := 5) rfl
  have a_6 := B_a.out.cell (j := 6) rfl
  have a_7 := B_a.out.cell (j := 7) rfl
  have a_f := B_a.out.frozen
  have a_z := B_a.out.lt
  have b_0 := B_b.out.cell (j := 0) rfl
  have b_1 := B_b.out.cell (j := 1) rfl
  have b_2 := B_b.out.cell (j := 2) rfl
  have b_3 := B_b.out.cell (j := 3) rfl
  have b_4 := B_b.out.cell (j := 4) rfl
  have b_5 := B_b.out.cell (j := 5) rfl
  have b_6 := B_b.out.cell (j := 6) rfl
  have b_7 := B_b.out.cell (j := 7) rfl
  have b_f := B_b.out.frozen
  have b_z := B_b.out.lt
  go_wp2_with fail
  refine (eqG_same d _).mono ?_
  rintro e v5 ⟨rfl, hb⟩
  clear a_0 a_1 a_2 a_3 a_4 a_5 a_6 a_7 a_f a_z b_0 b_1 b_2 b_3 b_4 b_5 b_6 b_7 b_f b_z
  replace B_a : Hid (Blk v5 (w.heap.size) #[.int .i64 a.re, .int .i64 a.im, .int .i64 b.re, .int .i64 b.im, .int .i64 c.re, .int .i64 c.im, .int .i64 d.re, .int .i64 d.im] 27) := by show Blk v5 (w.heap.size) _ _; exact Blk.old B_a.out hb
  replace B_b : Hid (Blk v5 (w.heap.size + 1) #[.int .i64 a.re, .int .i64 a.im, .int .i64 b.re, .int .i64 b.im, .int .i64 c.re, .int .i64 c.im, .int .i64 d.re, .int .i64 d.im] 27) := by show Blk v5 (w.heap.size + 1) _ _; exact Blk.old B_b.out hb
  replace HO : Hid (Below w.heap.size w v5) := box_step HO.out hb (Nat.le_refl _)
  clear hb
  go_upto_region 9 with fail
  go_wp2
  go_ret
  exact ⟨rfl, HO.out⟩
set_option maxRecDepth 20000 in
set_option maxHeartbeats 1600000 in
theorem eqJ_same (a b : Gz) (w : World) : Calls Try.prog 83 #[.agg #[.int .i64 a.re, .int .i64 a.im, .int .i64 b.re, .int .i64 b.im], .agg #[.int .i64 a.re, .int .i64 a.im, .int .i64 b.re, .int .i64 b.im]] w fun e w' => e = .returned (.bool true) ∧ Below w.heap.size w w' := by
  go_enter Try.func83, Try.ntmps83
  have HO : Hid (Below w.heap.size w w) := Below.refl _ _
  go_upto_region 1 with fail
  obtain ⟨v1, hv⟩ : ∃ Xw, Xw = ((w.alloc (.cells #[.int .i64 a.re, .int .i64 a.im, .int .i64 b.re, .int .i64 b.im] 29)).alloc (.cells #[.int .i64 a.re, .int .i64 a.im, .int .i64 b.re, .int .i64 b.im] 29)) := ⟨_, rfl⟩
  rw [← hv]
  have ne_a_b : Hid (w.heap.size ≠ w.heap.size + 1) := by show (w.heap.size : Nat) ≠ w.heap.size + 1; omega
  have B_a : Hid (Blk v1 (w.heap.size) #[.int .i64 a.re, .int .i64 a.im, .int .i64 b.re, .int .i64 b.im] 29) := by show Blk v1 (w.heap.size) _ _; rw [hv]; exact (Blk.alloc (Blk.new (by simp)) _)
  have low_a : Hid (w.heap.size ≤ w.heap.size) := by show w.heap.size ≤ w.heap.size; have := HO.out.size; omega
  have B_b : Hid (Blk v1 (w.heap.size + 1) #[.int .i64 a.re, .int .i64 a.im, .int .i64 b.re, .int .i64 b.im] 29) := by show Blk v1 (w.heap.size + 1) _ _; rw [hv]; exact (Blk.new (by simp))
  have low_b : Hid (w.heap.size ≤ w.heap.size + 1) := by show w.heap.size ≤ w.heap.size + 1; have := HO.out.size; omega
  replace HO : Hid (Below w.heap.size w v1) := by show Below w.heap.size w v1; rw [hv]; exact (below_new (below_new HO.out _) _)
  clear hv
  have a_0 := B_a.out.cell (j := 0) rfl
  have a_1 := B_a.out.cell (j := 1) rfl
  have a_2 := B_a.out.cell (j := 2) rfl
  have a_3 := B_a.out.cell (j := 3) rfl
  have a_f := B_a.out.frozen
  have a_z := B_a.out.lt
  have b_0 := B_b.out.cell (j := 0) rfl
  have b_1 := B_b.out.cell (j := 1) rfl
  have b_2 := B_b.out.cell (j := 2) rfl
  have b_3 := B_b.out.cell (j := 3) rfl
  have b_f := B_b.out.frozen
  have b_z := B_b.out.lt
  go_wp2_with fail
  refine (eqG_same a _).mono ?_
  rintro e v2 ⟨rfl, hb⟩
  clear a_0 a_1 a_2 a_3 a_f a_z b_0 b_1 b_2 b_3 b_f b_z
  replace B_a : Hid (Blk v2 (w.heap.size) #[.int .i64 a.re, .int .i64 a.im, .int .i64 b.re, .int .i64 b.im] 29) := by show Blk v2 (w.heap.size) _ _; exact Blk.old B_a.out hb
  replace B_b : Hid (Blk v2 (w.heap.size + 1) #[.int .i64 a.re, .int .i64 a.im, .int .i64 b.re, .int .i64 b.im] 29) := by show Blk v2 (w.heap.size + 1) _ _; exact Blk.old B_b.out hb
  replace HO : Hid (Below w.heap.size w v2) := box_step HO.out hb (Nat.le_refl _)
  clear hb
  go_upto_region 3 with fail
  have a_0 := B_a.out.cell (j := 0) rfl
  have a_1 := B_a.out.cell (j := 1) rfl
  have a_2 := B_a.out.cell (j := 2) rfl
  have a_3 := B_a.out.cell (j := 3) rfl
  have a_f := B_a.out.frozen
  have a_z := B_a.out.lt
  have b_0 := B_b.out.cell (j := 0) rfl
  have b_1 := B_b.out.cell (j := 1) rfl
  have b_2 := B_b.out.cell (j := 2) rfl
  have b_3 := B_b.out.cell (j := 3) rfl
  have b_f := B_b.out.frozen
  have b_z := B_b.out.lt
  go_wp2_with fail
  refine (eqG_same b _).mono ?_
  rintro e v3 ⟨rfl, hb⟩
  clear a_0 a_1 a_2 a_3 a_f a_z b_0 b_1 b_2 b_3 b_f b_z
  replace B_a : Hid (Blk v3 (w.heap.size) #[.int .i64 a.re, .int .i64 a.im, .int .i64 b.re, .int .i64 b.im] 29) := by show Blk v3 (w.heap.size) _ _; exact Blk.old B_a.out hb
  replace B_b : Hid (Blk v3 (w.heap.size + 1) #[.int .i64 a.re, .int .i64 a.im, .int .i64 b.re, .int .i64 b.im] 29) := by show Blk v3 (w.heap.size + 1) _ _; exact Blk.old B_b.out hb
  replace HO : Hid (Below w.heap.size w v3) := box_step HO.out hb (Nat.le_refl _)
  clear hb
  go_upto_region 5 with fail
  go_wp2
  go_ret
  exact ⟨rfl, HO.out⟩
set_option maxRecDepth 20000 in
set_option maxHeartbeats 1600000 in
theorem eqJR_same (c : Int) (a b : Gz) (w : World) : Calls Try.prog 37 #[.agg #[.int .i64 (c), .int .i64 a.re, .int .i64 a.im, .int .i64 b.re, .int .i64 b.im], .agg #[.int .i64 (c), .int .i64 a.re, .int .i64 a.im, .int .i64 b.re, .int .i64 b.im]] w fun e w' => e = .returned (.bool true) ∧ Below w.heap.size w w' := by
  go_enter Try.func37, Try.ntmps37
  have HO : Hid (Below w.heap.size w w) := Below.refl _ _
  go_upto_region 1 with fail
  obtain ⟨v1, hv⟩ : ∃ Xw, Xw = ((w.alloc (.cells #[.int .i64 (c), .int .i64 a.re, .int .i64 a.im, .int .i64 b.re, .int .i64 b.im] 33)).alloc (.cells #[.int .i64 (c), .int .i64 a.re, .int .i64 a.im, .int .i64 b.re, .int .i64 b.im] 33)) := ⟨_, rfl⟩
  rw [← hv]
  have ne_a_b : Hid (w.heap.size ≠ w.heap.size + 1) := by show (w.heap.size : Nat) ≠ w.heap.size + 1; omega
  have B_a : Hid (Blk v1 (w.heap.size) #[.int .i64 (c), .int .i64 a.re, .int .i64 a.im, .int .i64 b.re, .int .i64 b.im] 33) := by show Blk v1 (w.heap.size) _ _; rw [hv]; exact (Blk.alloc (Blk.new (by simp)) _)
  have low_a : Hid (w.heap.size ≤ w.heap.size) := by show w.heap.size ≤ w.heap.size; have := HO.out.size; omega
  have B_b : Hid (Blk v1 (w.heap.size + 1) #[.int .i64 (c), .int .i64 a.re, .int .i64 a.im, .int .i64 b.re, .int .i64 b.im] 33) := by show Blk v1 (w.heap.size + 1) _ _; rw [hv]; exact (Blk.new (by simp))
  have low_b : Hid (w.heap.size ≤ w.heap.size + 1) := by show w.heap.size ≤ w.heap.size + 1; have := HO.out.size; omega
  replace HO : Hid (Below w.heap.size w v1) := by show Below w.heap.size w v1; rw [hv]; exact (below_new (below_new HO.out _) _)
  clear hv
  have a_0 := B_a.out.cell (j := 0) rfl
  have a_1 := B_a.out.cell (j := 1) rfl
  have a_2 := B_a.out.cell (j := 2) rfl
  have a_3 := B_a.out.cell (j := 3) rfl
  have a_4 := B_a.out.cell (j := 4) rfl
  have a_f := B_a.out.frozen
  have a_z := B_a.out.lt
  have b_0 := B_b.out.cell (j := 0) rfl
  have b_1 := B_b.out.cell (j := 1) rfl
  have b_2 := B_b.out.cell (j := 2) rfl
  have b_3 := B_b.out.cell (j := 3) rfl
  have b_4 := B_b.out.cell (j := 4) rfl
  have b_f := B_b.out.frozen
  have b_z := B_b.out.lt
  go_upto_region 3 with fail
  clear a_0 a_1 a_2 a_3 a_4 a_f a_z b_0 b_1 b_2 b_3 b_4 b_f b_z
  have a_0 := B_a.out.cell (j := 0) rfl
  have a_1 := B_a.out.cell (j := 1) rfl
  have a_2 := B_a.out.cell (j := 2) rfl
  have a_3 := B_a.out.cell (j := 3) rfl
  have a_4 := B_a.out.cell (j := 4) rfl
  have a_f := B_a.out.frozen
  have a_z := B_a.out.lt
  have b_0 := B_b.out.cell (j := 0) rfl
  have b_1 := B_b.out.cell (j := 1) rfl
  have b_2 := B_b.out.cell (j := 2) rfl
  have b_3 := B_b.out.cell (j := 3) rfl
  have b_4 := B_b.out.cell (j := 4) rfl
  have b_f := B_b.out.frozen
  have b_z := B_b.out.lt
  go_wp2_with fail
  refine (eqJ_same a b _).mono ?_
  rintro e v2 ⟨rfl, hb⟩
  clear a_0 a_1 a_2 a_3 a_4 a_f a_z b_0 b_1 b_2 b_3 b_4 b_f b_z
  replace B_a : Hid (Blk v2 (w.heap.size) #[.int .i64 (c), .int .i64 a.re, .int .i64 a.im, .int .i64 b.re, .int .i64 b.im] 33) := by show Blk v2 (w.heap.size) _ _; exact Blk.old B_a.out hb
  replace B_b : Hid (Blk v2 (w.heap.size + 1) #[.int .i64 (c), .int .i64 a.re, .int .i64 a.im, .int .i64 b.re, .int .i64 b.im] 33) := by show Blk v2 (w.heap.size + 1) _ _; exact Blk.old B_b.out hb
  replace HO : Hid (Below w.heap.size w v2) := box_step HO.out hb (Nat.le_refl _)
  clear hb
  go_upto_region 5 with fail
  go_wp2
  go_ret
  exact ⟨rfl, HO.out⟩
set_option maxRecDepth 20000 in
set_option maxHeartbeats 1600000 in
theorem eqPR_same (k : Int) (a b c d : Gz) (w : World) : Calls Try.prog 42 #[.agg #[.int .i64 (k), .int .i64 a.re, .int .i64 a.im, .int .i64 b.re, .int .i64 b.im, .int .i64 c.re, .int .i64 c.im, .int .i64 d.re, .int .i64 d.im], .agg #[.int .i64 (k), .int .i64 a.re, .int .i64 a.im, .int .i64 b.re, .int .i64 b.im, .int .i64 c.re, .int .i64 c.im, .int .i64 d.re, .int .i64 d.im]] w fun e w' => e = .returned (.bool true) ∧ Below w.heap.size w w' := by
  go_enter Try.func42, Try.ntmps42
  have HO : Hid (Below w.heap.size w w) := Below.refl _ _
  go_upto_region 1 with fail
  obtain ⟨v1, hv⟩ : ∃ Xw, Xw = ((w.alloc (.cells #[.int .i64 (k), .int .i64 a.re, .int .i64 a.im, .int .i64 b.re, .int .i64 b.im, .int .i64 c.re, .int .i64 c.im, .int .i64 d.re, .int .i64 d.im] 66)).alloc (.cells #[.int .i64 (k), .int .i64 a.re, .int .i64 a.im, .int .i64 b.re, .int .i64 b.im, .int .i64 c.re, .int .i64 c.im, .int .i64 d.re, .int .i64 d.im] 66)) := ⟨_, rfl⟩
  rw [← hv]
  have ne_a_b : Hid (w.heap.size ≠ w.heap.size + 1) := by show (w.heap.size : Nat) ≠ w.heap.size + 1; omega
  have B_a : Hid (Blk v1 (w.heap.size) #[.int .i64 (k), .int .i64 a.re, .int .i64 a.im, .int .i64 b.re, .int .i64 b.im, .int .i64 c.re, .int .i64 c.im, .int .i64 d.re, .int .i64 d.im] 66) := by show Blk v1 (w.heap.size) _ _; rw [hv]; exact (Blk.alloc (Blk.new (by simp)) _)
  have low_a : Hid (w.heap.size ≤ w.heap.size) := by show w.heap.size ≤ w.heap.size; have := HO.out.size; omega
  have B_b : Hid (Blk v1 (w.heap.size + 1) #[.int .i64 (k), .int .i64 a.re, .int .i64 a.im, .int .i64 b.re, .int .i64 b.im, .int .i64 c.re, .int .i64 c.im, .int .i64 d.re, .int .i64 d.im] 66) := by show Blk v1 (w.heap.size + 1) _ _; rw [hv]; exact (Blk.new (by simp))
  have low_b : Hid (w.heap.size ≤ w.heap.size + 1) := by show w.heap.size ≤ w.heap.size + 1; have := HO.out.size; omega
  replace HO : Hid (Below w.heap.size w v1) := by show Below w.heap.size w v1; rw [hv]; exact (below_new (below_new HO.out _) _)
  clear hv
  have a_0 := B_a.out.cell (j := 0) rfl
  have a_1 := B_a.out.cell (j := 1) rfl
  have a_2 := B_a.out.cell (j := 2) rfl
  have a_3 := B_a.out.cell (j := 3) rfl
  have a_4 := B_a.out.cell (j := 4) rfl
  have a_5 := B_a.out.cell (j := 5) rfl
  have a_6 := B_a.out.cell (j := 6) rfl
  have a_7 := B_a.out.cell (j := 7) rfl
  have a_8 := B_a.out.cell (j := 8) rfl
  have a_f := B_a.out.frozen
  have a_z := B_a.out.lt
  have b_0 := B_b.out.cell (j := 0) rfl
  have b_1 := B_b.out.cell (j := 1) rfl
  have b_2 := B_b.out.cell (j := 2) rfl
  have b_3 := B_b.out.cell (j := 3) rfl
  have b_4 := B_b.out.cell (j := 4) rfl
  have b_5 := B_b.out.cell (j := 5) rfl
  have b_6 := B_b.out.cell (j := 6) rfl
  have b_7 := B_b.out.cell (j := 7) rfl
  have b_8 := B_b.out.cell (j := 8) rfl
  have b_f := B_b.out.frozen
  have b_z := B_b.out.lt
  go_upto_region 3 with fail
  clear a_0 a_1 a_2 a_3 a_4 a_5 a_6 a_7 a_8 a_f a_z b_0 b_1 b_2 b_3 b_4 b_5 b_6 b_7 b_8 b_f b_z
  have a_0 := B_a.out.cell (j := 0) rfl
  have a_1 := B_a.out.cell (j := 1) rfl
  have a_2 := B_a.out.cell (j := 2) rfl
  have a_3 := B_a.out.cell (j := 3) rfl
  have a_4 := B_a.out.cell (j := 4) rfl
  have a_5 := B_a.out.cell (j := 5) rfl
  have a_6 := B_a.out.cell (j := 6) rfl
  have a_7 := B_a.out.cell (j := 7) rfl
  have a_8 := B_a.out.cell (j := 8) rfl
  have a_f := B_a.out.frozen
  have a_z := B_a.out.lt
  have b_0 := B_b.out.cell (j := 0) rfl
  have b_1 := B_b.out.cell (j := 1) rfl
  have b_2 := B_b.out.cell (j := 2) rfl
  have b_3 := B_b.out.cell (j := 3) rfl
  have b_4 := B_b.out.cell (j := 4) rfl
  have b_5 := B_b.out.cell (j := 5) rfl
  have b_6 := B_b.out.cell (j := 6) rfl
  have b_7 := B_b.out.cell (j := 7) rfl
  have b_8 := B_b.out.cell (j := 8) rfl
  have b_f := B_b.out.frozen
  have b_z := B_b.out.lt
  go_wp2_with fail
  refine (eqP_same a b c d _).mono ?_
  rintro e v2 ⟨rfl, hb⟩
  clear a_0 a_1 a_2 a_3 a_4 a_5 a_6 a_7 a_8 a_f a_z b_0 b_1 b_2 b_3 b_4 b_5 b_6 b_7 b_8 b_f b_z
  replace B_a : Hid (Blk v2 (w.heap.size) #[.int .i64 (k), .int .i64 a.re, .int .i64 a.im, .int .i64 b.re, .int .i64 b.im, .int .i64 c.re, .int .i64 c.im, .int .i64 d.re, .int .i64 d.im] 66) := by show Blk v2 (w.heap.size) _ _; exact Blk.old B_a.out hb
  replace B_b : Hid (Blk v2 (w.heap.size + 1) #[.int .i64 (k), .int .i64 a.re, .int .i64 a.im, .int .i64 b.re, .int .i64 b.im, .int .i64 c.re, .int .i64 c.im, .int .i64 d.re, .int .i64 d.im] 66) := by show Blk v2 (w.heap.size + 1) _ _; exact Blk.old B_b.out hb
  replace HO : Hid (Below w.heap.size w v2) := box_step HO.out hb (Nat.le_refl _)
  clear hb
  go_upto_region 5 with fail
  go_wp2
  go_ret
  exact ⟨rfl, HO.out⟩
set_option maxRecDepth 20000 in
set_option maxHeartbeats 1600000 in
theorem eqSR_same (k : Int) (a : Sk) (w : World) : Calls Try.prog 46 #[.agg #[.int .i64 (k), .int .i64 a.i, .int .i64 a.q, .int .i64 a.u, .int .i64 a.v], .agg #[.int .i64 (k), .int .i64 a.i, .int .i64 a.q, .int .i64 a.u, .int .i64 a.v]] w fun e w' => e = .returned (.bool true) ∧ Below w.heap.size w w' := by
  go_enter Try.func46, Try.ntmps46
  have HO : Hid (Below w.heap.size w w) := Below.refl _ _
  go_upto_region 1 with fail
  obtain ⟨v1, hv⟩ : ∃ Xw, Xw = ((w.alloc (.cells #[.int .i64 (k), .int .i64 a.i, .int .i64 a.q, .int .i64 a.u, .int .i64 a.v] 38)).alloc (.cells #[.int .i64 (k), .int .i64 a.i, .int .i64 a.q, .int .i64 a.u, .int .i64 a.v] 38)) := ⟨_, rfl⟩
  rw [← hv]
  have ne_a_b : Hid (w.heap.size ≠ w.heap.size + 1) := by show (w.heap.size : Nat) ≠ w.heap.size + 1; omega
  have B_a : Hid (Blk v1 (w.heap.size) #[.int .i64 (k), .int .i64 a.i, .int .i64 a.q, .int .i64 a.u, .int .i64 a.v] 38) := by show Blk v1 (w.heap.size) _ _; rw [hv]; exact (Blk.alloc (Blk.new (by simp)) _)
  have low_a : Hid (w.heap.size ≤ w.heap.size) := by show w.heap.size ≤ w.heap.size; have := HO.out.size; omega
  have B_b : Hid (Blk v1 (w.heap.size + 1) #[.int .i64 (k), .int .i64 a.i, .int .i64 a.q, .int .i64 a.u, .int .i64 a.v] 38) := by show Blk v1 (w.heap.size + 1) _ _; rw [hv]; exact (Blk.new (by simp))
  have low_b : Hid (w.heap.size ≤ w.heap.size + 1) := by show w.heap.size ≤ w.heap.size + 1; have := HO.out.size; omega
  replace HO : Hid (Below w.heap.size w v1) := by show Below w.heap.size w v1; rw [hv]; exact (below_new (below_new HO.out _) _)
  clear hv
  have a_0 := B_a.out.cell (j := 0) rfl
  have a_1 := B_a.out.cell (j := 1) rfl
  have a_2 := B_a.out.cell (j := 2) rfl
  have a_3 := B_a.out.cell (j := 3) rfl
  have a_4 := B_a.out.cell (j := 4) rfl
  have a_f := B_a.out.frozen
  have a_z := B_a.out.lt
  have b_0 := B_b.out.cell (j := 0) rfl
  have b_1 := B_b.out.cell (j := 1) rfl
  have b_2 := B_b.out.cell (j := 2) rfl
  have b_3 := B_b.out.cell (j := 3) rfl
  have b_4 := B_b.out.cell (j := 4) rfl
  have b_f := B_b.out.frozen
  have b_z := B_b.out.lt
  go_upto_region 3 with fail
  clear a_0 a_1 a_2 a_3 a_4 a_f a_z b_0 b_1 b_2 b_3 b_4 b_f b_z
  have a_0 := B_a.out.cell (j := 0) rfl
  have a_1 := B_a.out.cell (j := 1) rfl
  have a_2 := B_a.out.cell (j := 2) rfl
  have a_3 := B_a.out.cell (j := 3) rfl
  have a_4 := B_a.out.cell (j := 4) rfl
  have a_f := B_a.out.frozen
  have a_z := B_a.out.lt
  have b_0 := B_b.out.cell (j := 0) rfl
  have b_1 := B_b.out.cell (j := 1) rfl
  have b_2 := B_b.out.cell (j := 2) rfl
  have b_3 := B_b.out.cell (j := 3) rfl
  have b_4 := B_b.out.cell (j := 4) rfl
  have b_f := B_b.out.frozen
  have b_z := B_b.out.lt
  go_wp2_with fail
  refine (eqStokes_same a _).mono ?_
  rintro e v2 ⟨rfl, hb⟩
  clear a_0 a_1 a_2 a_3 a_4 a_f a_z b_0 b_1 b_2 b_3 b_4 b_f b_z
  replace B_a : Hid (Blk v2 (w.heap.size) #[.int .i64 (k), .int .i64 a.i, .int .i64 a.q, .int .i64 a.u, .int .i64 a.v] 38) := by show Blk v2 (w.heap.size) _ _; exact Blk.old B_a.out hb
  replace B_b : Hid (Blk v2 (w.heap.size + 1) #[.int .i64 (k), .int .i64 a.i, .int .i64 a.q, .int .i64 a.u, .int .i64 a.v] 38) := by show Blk v2 (w.heap.size + 1) _ _; exact Blk.old B_b.out hb
  replace HO : Hid (Below w.heap.size w v2) := box_step HO.out hb (Nat.le_refl _)
  clear hb
  go_upto_region 5 with fail
  go_wp2
  go_ret
  exact ⟨rfl, HO.out⟩
end Go.Proofs.Ytloebnlmeplgbaa
