/- Light behind a plate: the specification, and one plain answer of both. -/
import Derived.Test.YtloebnlmeplgbaaPj
import Derived.Handy
namespace Go.Proofs.Ytloebnlmeplgbaa
open Go.RowKit
set_option linter.unusedVariables false
set_option linter.unusedSimpArgs false
set_option maxRecDepth 20000 in
set_option maxHeartbeats 1600000 in
theorem spj_1 (p : Pl) (l : Jn) (hp : pcode p.a p.b p.c p.d = 3) (w : World) : Calls Try.prog 18 #[.agg #[.int .i64 p.a.re, .int .i64 p.a.im, .int .i64 p.b.re, .int .i64 p.b.im, .int .i64 p.c.re, .int .i64 p.c.im, .int .i64 p.d.re, .int .i64 p.d.im], .agg #[.int .i64 l.x.re, .int .i64 l.x.im, .int .i64 l.y.re, .int .i64 l.y.im]] w fun e w' => e = .returned (.agg #[.int .i64 3, .int .i64 0, .int .i64 0, .int .i64 0, .int .i64 0]) ∧ Below w.heap.size w w' := by
  go_enter Try.func18, Try.ntmps18
  have HO : Hid (Below w.heap.size w w) := Below.refl _ _
  go_upto_region 1 with fail
  obtain ⟨v1, hv⟩ : ∃ Xw, Xw = (((w.alloc (.cells #[.int .i64 p.a.re, .int .i64 p.a.im, .int .i64 p.b.re, .int .i64 p.b.im, .int .i64 p.c.re, .int .i64 p.c.im, .int .i64 p.d.re, .int .i64 p.d.im] 27)).alloc (.cells #[.int .i64 l.x.re, .int .i64 l.x.im, .int .i64 l.y.re, .int .i64 l.y.im] 29)).alloc (.cells #[.int .i64 0, .int .i64 0, .int .i64 0, .int .i64 0, .int .i64 0] 33)) := ⟨_, rfl⟩
  rw [← hv]
  have ne_p_l : Hid (w.heap.size ≠ w.heap.size + 1) := by show (w.heap.size : Nat) ≠ w.heap.size + 1; omega
  have ne_p_r : Hid (w.heap.size ≠ w.heap.size + 1 + 1) := by show (w.heap.size : Nat) ≠ w.heap.size + 1 + 1; omega
  have ne_l_r : Hid (w.heap.size + 1 ≠ w.heap.size + 1 + 1) := by show (w.heap.size + 1 : Nat) ≠ w.heap.size + 1 + 1; omega
  have B_p : Hid (Blk v1 (w.heap.size) #[.int .i64 p.a.re, .int .i64 p.a.im, .int .i64 p.b.re, .int .i64 p.b.im, .int .i64 p.c.re, .int .i64 p.c.im, .int .i64 p.d.re, .int .i64 p.d.im] 27) := by show Blk v1 (w.heap.size) _ _; rw [hv]; exact (Blk.alloc (Blk.alloc (Blk.new (by simp)) _) _)
  have low_p : Hid (w.heap.size ≤ w.heap.size) := by show w.heap.size ≤ w.heap.size; have := HO.out.size; omega
  have B_l : Hid (Blk v1 (w.heap.size + 1) #[.int .i64 l.x.re, .int .i64 l.x.im, .int .i64 l.y.re, .int .i64 l.y.im] 29) := by show Blk v1 (w.heap.size + 1) _ _; rw [hv]; exact (Blk.alloc (Blk.new (by simp)) _)
  have low_l : Hid (w.heap.size ≤ w.heap.size + 1) := by show w.heap.size ≤ w.heap.size + 1; have := HO.out.size; omega
  have B_r : Hid (Blk v1 (w.heap.size + 1 + 1) #[.int .i64 0, .int .i64 0, .int .i64 0, .int .i64 0, .int .i64 0] 33) := by show Blk v1 (w.heap.size + 1 + 1) _ _; rw [hv]; exact (Blk.new (by simp))
  have low_r : Hid (w.heap.size ≤ w.heap.size + 1 + 1) := by show w.heap.size ≤ w.heap.size + 1 + 1; have := HO.out.size; omega
  replace HO : Hid (Below w.heap.size w v1) := by show Below w.heap.size w v1; rw [hv]; exact (below_new (below_new (below_new HO.out _) _) _)
  clear hv
  have p_0 := B_p.out.cell (j := 0) rfl
  have p_1 := B_p.out.cell (j := 1) rfl
  have p_2 := B_p.out.cell (j := 2) rfl
  have p_3 := B_p.out.cell (j := 3) rfl
  have p_4 := B_p.out.cell (j := 4) rfl
  have p_5 := B_p.out.cell (j := 5) rfl
  have p_6 := B_p.out.cell (j := 6) rfl
  have p_7 := B_p.out.cell (j := 7) rfl
  have p_f := B_p.out.frozen
  have p_z := B_p.out.lt
  go_wp2_with fail
  refine (splate p.a p.b p.c p.d _).mono ?_
  rintro e v2 ⟨rfl, hb⟩
  clear p_0 p_1 p_2 p_3 p_4 p_5 p_6 p_7 p_f p_z
  replace B_p : Hid (Blk v2 (w.heap.size) #[.int .i64 p.a.re, .int .i64 p.a.im, .int .i64 p.b.re, .int .i64 p.b.im, .int .i64 p.c.re, .int .i64 p.c.im, .int .i64 p.d.re, .int .i64 p.d.im] 27) := by show Blk v2 (w.heap.size) _ _; exact Blk.old B_p.out hb
  replace B_l : Hid (Blk v2 (w.heap.size + 1) #[.int .i64 l.x.re, .int .i64 l.x.im, .int .i64 l.y.re, .int .i64 l.y.im] 29) := by show Blk v2 (w.heap.size + 1) _ _; exact Blk.old B_l.out hb
  replace B_r : Hid (Blk v2 (w.heap.size + 1 + 1) #[.int .i64 0, .int .i64 0, .int .i64 0, .int .i64 0, .int .i64 0] 33) := by show Blk v2 (w.heap.size + 1 + 1) _ _; exact Blk.old B_r.out hb
  replace HO : Hid (Below w.heap.size w v2) := box_step HO.out hb (Nat.le_refl _)
  clear hb
  rw [hp]
  have r_0 := B_r.out.cell (j := 0) rfl
  have r_1 := B_r.out.cell (j := 1) rfl
  have r_2 := B_r.out.cell (j := 2) rfl
  have r_3 := B_r.out.cell (j := 3) rfl
  have r_4 := B_r.out.cell (j := 4) rfl
  have r_f := B_r.out.frozen
  have r_z := B_r.out.lt
  go_wp2
  refine bodyPost_ret (v := .agg #[.int .i64 3, .int .i64 0, .int .i64 0, .int .i64 0, .int .i64 0]) (by simp [results, Try.results18, go_sem, r_0, r_1, r_2, r_3, r_4, r_f, r_z] <;> (repeat' (first | rfl | apply And.intro))) rfl ⟨rfl, ?_⟩
  exact (Below.setCell (Below.setCell (Below.setCell (Below.setCell (Below.setCell HO.out low_r.out _) low_r.out _) low_r.out _) low_r.out _) low_r.out _)
set_option maxRecDepth 20000 in
set_option maxHeartbeats 1600000 in
theorem spj_2 (p : Pl) (l : Jn) (hp : pcode p.a p.b p.c p.d = 0) (hj : jcode l.x l.y = 3) (w : World) : Calls Try.prog 18 #[.agg #[.int .i64 p.a.re, .int .i64 p.a.im, .int .i64 p.b.re, .int .i64 p.b.im, .int .i64 p.c.re, .int .i64 p.c.im, .int .i64 p.d.re, .int .i64 p.d.im], .agg #[.int .i64 l.x.re, .int .i64 l.x.im, .int .i64 l.y.re, .int .i64 l.y.im]] w fun e w' => e = .returned (.agg #[.int .i64 3, .int .i64 0, .int .i64 0, .int .i64 0, .int .i64 0]) ∧ Below w.heap.size w w' := by
  go_enter Try.func18, Try.ntmps18
  have HO : Hid (Below w.heap.size w w) := Below.refl _ _
  go_upto_region 1 with fail
  obtain ⟨v1, hv⟩ : ∃ Xw, Xw = (((w.alloc (.cells #[.int .i64 p.a.re, .int .i64 p.a.im, .int .i64 p.b.re, .int .i64 p.b.im, .int .i64 p.c.re, .int .i64 p.c.im, .int .i64 p.d.re, .int .i64 p.d.im] 27)).alloc (.cells #[.int .i64 l.x.re, .int .i64 l.x.im, .int .i64 l.y.re, .int .i64 l.y.im] 29)).alloc (.cells #[.int .i64 0, .int .i64 0, .int .i64 0, .int .i64 0, .int .i64 0] 33)) := ⟨_, rfl⟩
  rw [← hv]
  have ne_p_l : Hid (w.heap.size ≠ w.heap.size + 1) := by show (w.heap.size : Nat) ≠ w.heap.size + 1; omega
  have ne_p_r : Hid (w.heap.size ≠ w.heap.size + 1 + 1) := by show (w.heap.size : Nat) ≠ w.heap.size + 1 + 1; omega
  have ne_l_r : Hid (w.heap.size + 1 ≠ w.heap.size + 1 + 1) := by show (w.heap.size + 1 : Nat) ≠ w.heap.size + 1 + 1; omega
  have B_p : Hid (Blk v1 (w.heap.size) #[.int .i64 p.a.re, .int .i64 p.a.im, .int .i64 p.b.re, .int .i64 p.b.im, .int .i64 p.c.re, .int .i64 p.c.im, .int .i64 p.d.re, .int .i64 p.d.im] 27) := by show Blk v1 (w.heap.size) _ _; rw [hv]; exact (Blk.alloc (Blk.alloc (Blk.new (by simp)) _) _)
  have low_p : Hid (w.heap.size ≤ w.heap.size) := by show w.heap.size ≤ w.heap.size; have := HO.out.size; omega
  have B_l : Hid (Blk v1 (w.heap.size + 1) #[.int .i64 l.x.re, .int .i64 l.x.im, .int .i64 l.y.re, .int .i64 l.y.im] 29) := by show Blk v1 (w.heap.size + 1) _ _; rw [hv]; exact (Blk.alloc (Blk.new (by simp)) _)
  have low_l : Hid (w.heap.size ≤ w.heap.size + 1) := by show w.heap.size ≤ w.heap.size + 1; have := HO.out.size; omega
  have B_r : Hid (Blk v1 (w.heap.size + 1 + 1) #[.int .i64 0, .int .i64 0, .int .i64 0, .int .i64 0, .int .i64 0] 33) := by show Blk v1 (w.heap.size + 1 + 1) _ _; rw [hv]; exact (Blk.new (by simp))
  have low_r : Hid (w.heap.size ≤ w.heap.size + 1 + 1) := by show w.heap.size ≤ w.heap.size + 1 + 1; have := HO.out.size; omega
  replace HO : Hid (Below w.heap.size w v1) := by show Below w.heap.size w v1; rw [hv]; exact (below_new (below_new (below_new HO.out _) _) _)
  clear hv
  have p_0 := B_p.out.cell (j := 0) rfl
  have p_1 := B_p.out.cell (j := 1) rfl
  have p_2 := B_p.out.cell (j := 2) rfl
  have p_3 := B_p.out.cell (j := 3) rfl
  have p_4 := B_p.out.cell (j := 4) rfl
  have p_5 := B_p.out.cell (j := 5) rfl
  have p_6 := B_p.out.cell (j := 6) rfl
  have p_7 := B_p.out.cell (j := 7) rfl
  have p_f := B_p.out.frozen
  have p_z := B_p.out.lt
  go_wp2_with fail
  refine (splate p.a p.b p.c p.d _).mono ?_
  rintro e v2 ⟨rfl, hb⟩
  clear p_0 p_1 p_2 p_3 p_4 p_5 p_6 p_7 p_f p_z
  replace B_p : Hid (Blk v2 (w.heap.size) #[.int .i64 p.a.re, .int .i64 p.a.im, .int .i64 p.b.re, .int .i64 p.b.im, .int .i64 p.c.re, .int .i64 p.c.im, .int .i64 p.d.re, .int .i64 p.d.im] 27) := by show Blk v2 (w.heap.size) _ _; exact Blk.old B_p.out hb
  replace B_l : Hid (Blk v2 (w.heap.size + 1) #[.int .i64 l.x.re, .int .i64 l.x.im, .int .i64 l.y.re, .int .i64 l.y.im] 29) := by show Blk v2 (w.heap.size + 1) _ _; exact Blk.old B_l.out hb
  replace B_r : Hid (Blk v2 (w.heap.size + 1 + 1) #[.int .i64 0, .int .i64 0, .int .i64 0, .int .i64 0, .int .i64 0] 33) := by show Blk v2 (w.heap.size + 1 + 1) _ _; exact Blk.old B_r.out hb
  replace HO : Hid (Below w.heap.size w v2) := box_step HO.out hb (Nat.le_refl _)
  clear hb
  rw [hp]
  have l_0 := B_l.out.cell (j := 0) rfl
  have l_1 := B_l.out.cell (j := 1) rfl
  have l_2 := B_l.out.cell (j := 2) rfl
  have l_3 := B_l.out.cell (j := 3) rfl
  have l_f := B_l.out.frozen
  have l_z := B_l.out.lt
  go_wp2_with fail
  refine (sjones l.x l.y _).mono ?_
  rintro e v3 ⟨rfl, hb⟩
  clear l_0 l_1 l_2 l_3 l_f l_z
  replace B_p : Hid (Blk v3 (w.heap.size) #[.int .i64 p.a.re, .int .i64 p.a.im, .int .i64 p.b.re, .int .i64 p.b.im, .int .i64 p.c.re, .int .i64 p.c.im, .int .i64 p.d.re, .int .i64 p.d.im] 27) := by show Blk v3 (w.heap.size) _ _; exact Blk.old B_p.out hb
  replace B_l : Hid (Blk v3 (w.heap.size + 1) #[.int .i64 l.x.re, .int .i64 l.x.im, .int .i64 l.y.re, .int .i64 l.y.im] 29) := by show Blk v3 (w.heap.size + 1) _ _; exact Blk.old B_l.out hb
  replace B_r : Hid (Blk v3 (w.heap.size + 1 + 1) #[.int .i64 0, .int .i64 0, .int .i64 0, .int .i64 0, .int .i64 0] 33) := by show Blk v3 (w.heap.size + 1 + 1) _ _; exact Blk.old B_r.out hb
  replace HO : Hid (Below w.heap.size w v3) := box_step HO.out hb (Nat.le_refl _)
  clear hb
  rw [hj]
  have r_0 := B_r.out.cell (j := 0) rfl
  have r_1 := B_r.out.cell (j := 1) rfl
  have r_2 := B_r.out.cell (j := 2) rfl
  have r_3 := B_r.out.cell (j := 3) rfl
  have r_4 := B_r.out.cell (j := 4) rfl
  have r_f := B_r.out.frozen
  have r_z := B_r.out.lt
  go_wp2
  refine bodyPost_ret (v := .agg #[.int .i64 3, .int .i64 0, .int .i64 0, .int .i64 0, .int .i64 0]) (by simp [results, Try.results18, go_sem, r_0, r_1, r_2, r_3, r_4, r_f, r_z] <;> (repeat' (first | rfl | apply And.intro))) rfl ⟨rfl, ?_⟩
  exact (Below.setCell (Below.setCell (Below.setCell (Below.setCell (Below.setCell HO.out low_r.out _) low_r.out _) low_r.out _) low_r.out _) low_r.out _)
set_option maxRecDepth 20000 in
set_option maxHeartbeats 1600000 in
theorem spj_3 (p : Pl) (l : Jn) (hp : pcode p.a p.b p.c p.d = 0) (hj : jcode l.x l.y = 0) (ho : jcode (two p.a l.x p.b l.y) (two p.c l.x p.d l.y) = 3) (w : World) : Calls Try.prog 18 #[.agg #[.int .i64 p.a.re, .int .i64 p.a.im, .int .i64 p.b.re, .int .i64 p.b.im, .int .i64 p.c.re, .int .i64 p.c.im, .int .i64 p.d.re, .int .i64 p.d.im], .agg #[.int .i64 l.x.re, .int .i64 l.x.im, .int .i64 l.y.re, .int .i64 l.y.im]] w fun e w' => e = .returned (.agg #[.int .i64 3, .int .i64 0, .int .i64 0, .int .i64 0, .int .i64 0]) ∧ Below w.heap.size w w' := by
  go_enter Try.func18, Try.ntmps18
  have HO : Hid (Below w.heap.size w w) := Below.refl _ _
  go_upto_region 1 with fail
  obtain ⟨v1, hv⟩ : ∃ Xw, Xw = (((w.alloc (.cells #[.int .i64 p.a.re, .int .i64 p.a.im, .int .i64 p.b.re, .int .i64 p.b.im, .int .i64 p.c.re, .int .i64 p.c.im, .int .i64 p.d.re, .int .i64 p.d.im] 27)).alloc (.cells #[.int .i64 l.x.re, .int .i64 l.x.im, .int .i64 l.y.re, .int .i64 l.y.im] 29)).alloc (.cells #[.int .i64 0, .int .i64 0, .int .i64 0, .int .i64 0, .int .i64 0] 33)) := ⟨_, rfl⟩
  rw [← hv]
  have ne_p_l : Hid (w.heap.size ≠ w.heap.size + 1) := by show (w.heap.size : Nat) ≠ w.heap.size + 1; omega
  have ne_p_r : Hid (w.heap.size ≠ w.heap.size + 1 + 1) := by show (w.heap.size : Nat) ≠ w.heap.size + 1 + 1; omega
  have ne_l_r : Hid (w.heap.size + 1 ≠ w.heap.size + 1 + 1) := by show (w.heap.size + 1 : Nat) ≠ w.heap.size + 1 + 1; omega
  have B_p : Hid (Blk v1 (w.heap.size) #[.int .i64 p.a.re, .int .i64 p.a.im, .int .i64 p.b.re, .int .i64 p.b.im, .int .i64 p.c.re, .int .i64 p.c.im, .int .i64 p.d.re, .int .i64 p.d.im] 27) := by show Blk v1 (w.heap.size) _ _; rw [hv]; exact (Blk.alloc (Blk.alloc (Blk.new (by simp)) _) _)
  have low_p : Hid (w.heap.size ≤ w.heap.size) := by show w.heap.size ≤ w.heap.size; have := HO.out.size; omega
  have B_l : Hid (Blk v1 (w.heap.size + 1) #[.int .i64 l.x.re, .int .i64 l.x.im, .int .i64 l.y.re, .int .i64 l.y.im] 29) := by show Blk v1 (w.heap.size + 1) _ _; rw [hv]; exact (Blk.alloc (Blk.new (by simp)) _)
  have low_l : Hid (w.heap.size ≤ w.heap.size + 1) := by show w.heap.size ≤ w.heap.size + 1; have := HO.out.size; omega
  have B_r : Hid (Blk v1 (w.heap.size + 1 + 1) #[.int .i64 0, .int .i64 0, .int .i64 0, .int .i64 0, .int .i64 0] 33) := by show Blk v1 (w.heap.size + 1 + 1) _ _; rw [hv]; exact (Blk.new (by simp))
  have low_r : Hid (w.heap.size ≤ w.heap.size + 1 + 1) := by show w.heap.size ≤ w.heap.size + 1 + 1; have := HO.out.size; omega
  replace HO : Hid (Below w.heap.size w v1) := by show Below w.heap.size w v1; rw [hv]; exact (below_new (below_new (below_new HO.out _) _) _)
  clear hv
  have p_0 := B_p.out.cell (j := 0) rfl
  have p_1 := B_p.out.cell (j := 1) rfl
  have p_2 := B_p.out.cell (j := 2) rfl
  have p_3 := B_p.out.cell (j := 3) rfl
  have p_4 := B_p.out.cell (j := 4) rfl
  have p_5 := B_p.out.cell (j := 5) rfl
  have p_6 := B_p.out.cell (j := 6) rfl
  have p_7 := B_p.out.cell (j := 7) rfl
  have p_f := B_p.out.frozen
  have p_z := B_p.out.lt
  go_wp2_with fail
  refine (splate p.a p.b p.c p.d _).mono ?_
  rintro e v2 ⟨rfl, hb⟩
  clear p_0 p_1 p_2 p_3 p_4 p_5 p_6 p_7 p_f p_z
  replace B_p : Hid (Blk v2 (w.heap.size) #[.int .i64 p.a.re, .int .i64 p.a.im, .int .i64 p.b.re, .int .i64 p.b.im, .int .i64 p.c.re, .int .i64 p.c.im, .int .i64 p.d.re, .int .i64 p.d.im] 27) := by show Blk v2 (w.heap.size) _ _; exact Blk.old B_p.out hb
  replace B_l : Hid (Blk v2 (w.heap.size + 1) #[.int .i64 l.x.re, .int .i64 l.x.im, .int .i64 l.y.re, .int .i64 l.y.im] 29) := by show Blk v2 (w.heap.size + 1) _ _; exact Blk.old B_l.out hb
  replace B_r : Hid (Blk v2 (w.heap.size + 1 + 1) #[.int .i64 0, .int .i64 0, .int .i64 0, .int .i64 0, .int .i64 0] 33) := by show Blk v2 (w.heap.size + 1 + 1) _ _; exact Blk.old B_r.out hb
  replace HO : Hid (Below w.heap.size w v2) := box_step HO.out hb (Nat.le_refl _)
  clear hb
  rw [hp]
  have l_0 := B_l.out.cell (j := 0) rfl
  have l_1 := B_l.out.cell (j := 1) rfl
  have l_2 := B_l.out.cell (j := 2) rfl
  have l_3 := B_l.out.cell (j := 3) rfl
  have l_f := B_l.out.frozen
  have l_z := B_l.out.lt
  go_wp2_with fail
  refine (sjones l.x l.y _).mono ?_
  rintro e v3 ⟨rfl, hb⟩
  clear l_0 l_1 l_2 l_3 l_f l_z
  replace B_p : Hid (Blk v3 (w.heap.size) #[.int .i64 p.a.re, .int .i64 p.a.im, .int .i64 p.b.re, .int .i64 p.b.im, .int .i64 p.c.re, .int .i64 p.c.im, .int .i64 p.d.re, .int .i64 p.d.im] 27) := by show Blk v3 (w.heap.size) _ _; exact Blk.old B_p.out hb
  replace B_l : Hid (Blk v3 (w.heap.size + 1) #[.int .i64 l.x.re, .int .i64 l.x.im, .int .i64 l.y.re, .int .i64 l.y.im] 29) := by show Blk v3 (w.heap.size + 1) _ _; exact Blk.old B_l.out hb
  replace B_r : Hid (Blk v3 (w.heap.size + 1 + 1) #[.int .i64 0, .int .i64 0, .int .i64 0, .int .i64 0, .int .i64 0] 33) := by show Blk v3 (w.heap.size + 1 + 1) _ _; exact Blk.old B_r.out hb
  replace HO : Hid (Below w.heap.size w v3) := box_step HO.out hb (Nat.le_refl _)
  clear hb
  rw [hj]
  go_upto_region 3 with fail
  have k_p_0 : ∀ W, Below v3.heap.size v3 W → W.cell? ⟨w.heap.size, 0, none⟩ = some (.int .i64 p.a.re) := fun _ h => kold h (B_p.out.cell (j := 0) rfl)
  have k_p_1 : ∀ W, Below v3.heap.size v3 W → W.cell? ⟨w.heap.size, 1, none⟩ = some (.int .i64 p.a.im) := fun _ h => kold h (B_p.out.cell (j := 1) rfl)
  have k_p_2 : ∀ W, Below v3.heap.size v3 W → W.cell? ⟨w.heap.size, 2, none⟩ = some (.int .i64 p.b.re) := fun _ h => kold h (B_p.out.cell (j := 2) rfl)
  have k_p_3 : ∀ W, Below v3.heap.size v3 W → W.cell? ⟨w.heap.size, 3, none⟩ = some (.int .i64 p.b.im) := fun _ h => kold h (B_p.out.cell (j := 3) rfl)
  have k_p_4 : ∀ W, Below v3.heap.size v3 W → W.cell? ⟨w.heap.size, 4, none⟩ = some (.int .i64 p.c.re) := fun _ h => kold h (B_p.out.cell (j := 4) rfl)
  have k_p_5 : ∀ W, Below v3.heap.size v3 W → W.cell? ⟨w.heap.size, 5, none⟩ = some (.int .i64 p.c.im) := fun _ h => kold h (B_p.out.cell (j := 5) rfl)
  have k_p_6 : ∀ W, Below v3.heap.size v3 W → W.cell? ⟨w.heap.size, 6, none⟩ = some (.int .i64 p.d.re) := fun _ h => kold h (B_p.out.cell (j := 6) rfl)
  have k_p_7 : ∀ W, Below v3.heap.size v3 W → W.cell? ⟨w.heap.size, 7, none⟩ = some (.int .i64 p.d.im) := fun _ h => kold h (B_p.out.cell (j := 7) rfl)
  have k_l_0 : ∀ W, Below v3.heap.size v3 W → W.cell? ⟨w.heap.size + 1, 0, none⟩ = some (.int .i64 l.x.re) := fun _ h => kold h (B_l.out.cell (j := 0) rfl)
  have k_l_1 : ∀ W, Below v3.heap.size v3 W → W.cell? ⟨w.heap.size + 1, 1, none⟩ = some (.int .i64 l.x.im) := fun _ h => kold h (B_l.out.cell (j := 1) rfl)
  have k_l_2 : ∀ W, Below v3.heap.size v3 W → W.cell? ⟨w.heap.size + 1, 2, none⟩ = some (.int .i64 l.y.re) := fun _ h => kold h (B_l.out.cell (j := 2) rfl)
  have k_l_3 : ∀ W, Below v3.heap.size v3 W → W.cell? ⟨w.heap.size + 1, 3, none⟩ = some (.int .i64 l.y.im) := fun _ h => kold h (B_l.out.cell (j := 3) rfl)
  have hR0 : Below v3.heap.size v3 v3 := Below.refl _ _
  go_wp2_with fail
  go_cut [5] (fun pz wx => ∃ (kx : Nat), pz = .pointer (some ⟨kx, 0, none⟩) ∧ v3.heap.size ≤ kx ∧ Below v3.heap.size v3 wx ∧ Blk wx kx #[.int .i64 ((two p.a l.x p.b l.y).re), .int .i64 ((two p.a l.x p.b l.y).im), .int .i64 ((two p.c l.x p.d l.y).re), .int .i64 ((two p.c l.x p.d l.y).im)] 29)
  case first =>
    go_region_held3 (fun W => Below v3.heap.size v3 W) (go_grown) (first | (go_at_call 64; refine (stwo _ _ _ _ _).mono ?_; rintro e wz ⟨rfl, hb1⟩; have hs1 := hb1.size; (try simp at hs1); have hR1 : Below v3.heap.size v3 wz := (by refine box_step ?_ hb1 (by go_size); go_grown); (first | (have hZ := box_step hZ hb1 (Nat.le_refl _)) | (have hZ := hb1)); obtain ⟨ho1, hf1, hz1⟩ := olds hZ))
    all_goals
      go_wp2_with fail
      go_meet
      case rel =>
        refine ⟨_, rfl, ?_, ?_, ?_⟩
        · omega
        · go_grown
        · first | with_reducible exact Blk.new rfl | with_reducible exact Blk.new (by simp) | exact (Blk.set (cs := #[.int .i64 ((two p.a l.x p.b l.y).re), .int .i64 ((two p.a l.x p.b l.y).im), .int .i64 ((two p.c l.x p.d l.y).re), .int .i64 0]) (Blk.set (cs := #[.int .i64 ((two p.a l.x p.b l.y).re), .int .i64 ((two p.a l.x p.b l.y).im), .int .i64 0, .int .i64 0]) (Blk.set (cs := #[.int .i64 ((two p.a l.x p.b l.y).re), .int .i64 0, .int .i64 0, .int .i64 0]) (Blk.set (cs := #[.int .i64 0, .int .i64 0, .int .i64 0, .int .i64 0]) (newOld hZ) _ _ rfl) _ _ rfl) _ _ rfl) _ _ rfl) | exact (Blk.set (cs := #[.int .i64 ((two p.a l.x p.b l.y).re), .int .i64 ((two p.a l.x p.b l.y).im), .int .i64 ((two p.c l.x p.d l.y).re), .int .i64 0]) (Blk.set (cs := #[.int .i64 ((two p.a l.x p.b l.y).re), .int .i64 ((two p.a l.x p.b l.y).im), .int .i64 0, .int .i64 0]) (Blk.set (cs := #[.int .i64 ((two p.a l.x p.b l.y).re), .int .i64 0, .int .i64 0, .int .i64 0]) (Blk.set (cs := #[.int .i64 0, .int .i64 0, .int .i64 0, .int .i64 0]) (Blk.old (Blk.drew (Blk.new rfl)) hZ) _ _ rfl) _ _ rfl) _ _ rfl) _ _ rfl)
  case rest =>
    obtain ⟨k5, rfl, hk1, hB, hN⟩ := hcut
    clear k_p_0 k_p_1 k_p_2 k_p_3 k_p_4 k_p_5 k_p_6 k_p_7 k_l_0 k_l_1 k_l_2 k_l_3 hR0
    obtain ⟨u4, hv⟩ : ∃ v, v = wc := ⟨_, rfl⟩
    subst hv
    have ne_p_b : Hid (w.heap.size ≠ k5) := Nat.ne_of_lt (Nat.lt_of_lt_of_le B_p.out.lt hk1)
    replace B_p : Hid (Blk u4 (w.heap.size) #[.int .i64 p.a.re, .int .i64 p.a.im, .int .i64 p.b.re, .int .i64 p.b.im, .int .i64 p.c.re, .int .i64 p.c.im, .int .i64 p.d.re, .int .i64 p.d.im] 27) := by show Blk u4 (w.heap.size) _ _; exact Blk.old B_p.out hB
    have ne_l_b : Hid (w.heap.size + 1 ≠ k5) := Nat.ne_of_lt (Nat.lt_of_lt_of_le B_l.out.lt hk1)
    replace B_l : Hid (Blk u4 (w.heap.size + 1) #[.int .i64 l.x.re, .int .i64 l.x.im, .int .i64 l.y.re, .int .i64 l.y.im] 29) := by show Blk u4 (w.heap.size + 1) _ _; exact Blk.old B_l.out hB
    have ne_r_b : Hid (w.heap.size + 1 + 1 ≠ k5) := Nat.ne_of_lt (Nat.lt_of_lt_of_le B_r.out.lt hk1)
    replace B_r : Hid (Blk u4 (w.heap.size + 1 + 1) #[.int .i64 0, .int .i64 0, .int .i64 0, .int .i64 0, .int .i64 0] 33) := by show Blk u4 (w.heap.size + 1 + 1) _ _; exact Blk.old B_r.out hB
    have B_b : Hid (Blk u4 (k5) #[.int .i64 ((two p.a l.x p.b l.y).re), .int .i64 ((two p.a l.x p.b l.y).im), .int .i64 ((two p.c l.x p.d l.y).re), .int .i64 ((two p.c l.x p.d l.y).im)] 29) := hN
    have low_b : Hid (w.heap.size ≤ k5) := Nat.le_trans HO.out.size hk1
    replace HO : Hid (Below w.heap.size w u4) := HO.out.trans (hB.mono HO.out.size)
    clear hB hk1 hN
    have b_0 := B_b.out.cell (j := 0) rfl
    have b_1 := B_b.out.cell (j := 1) rfl
    have b_2 := B_b.out.cell (j := 2) rfl
    have b_3 := B_b.out.cell (j := 3) rfl
    have b_f := B_b.out.frozen
    have b_z := B_b.out.lt
    go_wp2_with fail
    refine (sjones (two p.a l.x p.b l.y) (two p.c l.x p.d l.y) _).mono ?_
    rintro e v6 ⟨rfl, hb⟩
    clear b_0 b_1 b_2 b_3 b_f b_z
    replace B_p : Hid (Blk v6 (w.heap.size) #[.int .i64 p.a.re, .int .i64 p.a.im, .int .i64 p.b.re, .int .i64 p.b.im, .int .i64 p.c.re, .int .i64 p.c.im, .int .i64 p.d.re, .int .i64 p.d.im] 27) := by show Blk v6 (w.heap.size) _ _; exact Blk.old B_p.out hb
    replace B_l : Hid (Blk v6 (w.heap.size + 1) #[.int .i64 l.x.re, .int .i64 l.x.im, .int .i64 l.y.re, .int .i64 l.y.im] 29) := by show Blk v6 (w.heap.size + 1) _ _; exact Blk.old B_l.out hb
    replace B_r : Hid (Blk v6 (w.heap.size + 1 + 1) #[.int .i64 0, .int .i64 0, .int .i64 0, .int .i64 0, .int .i64 0] 33) := by show Blk v6 (w.heap.size + 1 + 1) _ _; exact Blk.old B_r.out hb
    replace B_b : Hid (Blk v6 (k5) #[.int .i64 ((two p.a l.x p.b l.y).re), .int .i64 ((two p.a l.x p.b l.y).im), .int .i64 ((two p.c l.x p.d l.y).re), .int .i64 ((two p.c l.x p.d l.y).im)] 29) := by show Blk v6 (k5) _ _; exact Blk.old B_b.out hb
    replace HO : Hid (Below w.heap.size w v6) := box_step HO.out hb (Nat.le_refl _)
    clear hb
    rw [ho]
    have r_0 := B_r.out.cell (j := 0) rfl
    have r_1 := B_r.out.cell (j := 1) rfl
    have r_2 := B_r.out.cell (j := 2) rfl
    have r_3 := B_r.out.cell (j := 3) rfl
    have r_4 := B_r.out.cell (j := 4) rfl
    have r_f := B_r.out.frozen
    have r_z := B_r.out.lt
    go_wp2
    refine bodyPost_ret (v := .agg #[.int .i64 3, .int .i64 0, .int .i64 0, .int .i64 0, .int .i64 0]) (by simp [results, Try.results18, go_sem, r_0, r_1, r_2, r_3, r_4, r_f, r_z] <;> (repeat' (first | rfl | apply And.intro))) rfl ⟨rfl, ?_⟩
    exact (Below.setCell (Below.setCell (Below.setCell (Below.setCell (Below.setCell HO.out low_r.out _) low_r.out _) low_r.out _) low_r.out _) low_r.out _)
set_option maxRecDepth 20000 in
set_option maxHeartbeats 1600000 in
theorem spj_4 (p : Pl) (l : Jn) (hp : pcode p.a p.b p.c p.d = 0) (hj : jcode l.x l.y = 0) (ho : jcode (two p.a l.x p.b l.y) (two p.c l.x p.d l.y) = 0) (w : World) : Calls Try.prog 18 #[.agg #[.int .i64 p.a.re, .int .i64 p.a.im, .int .i64 p.b.re, .int .i64 p.b.im, .int .i64 p.c.re, .int .i64 p.c.im, .int .i64 p.d.re, .int .i64 p.d.im], .agg #[.int .i64 l.x.re, .int .i64 l.x.im, .int .i64 l.y.re, .int .i64 l.y.im]] w fun e w' => e = .returned (.agg #[.int .i64 0, .int .i64 ((two p.a l.x p.b l.y).re), .int .i64 ((two p.a l.x p.b l.y).im), .int .i64 ((two p.c l.x p.d l.y).re), .int .i64 ((two p.c l.x p.d l.y).im)]) ∧ Below w.heap.size w w' := by
  go_enter Try.func18, Try.ntmps18
  have HO : Hid (Below w.heap.size w w) := Below.refl _ _
  go_upto_region 1 with fail
  obtain ⟨v1, hv⟩ : ∃ Xw, Xw = (((w.alloc (.cells #[.int .i64 p.a.re, .int .i64 p.a.im, .int .i64 p.b.re, .int .i64 p.b.im, .int .i64 p.c.re, .int .i64 p.c.im, .int .i64 p.d.re, .int .i64 p.d.im] 27)).alloc (.cells #[.int .i64 l.x.re, .int .i64 l.x.im, .int .i64 l.y.re, .int .i64 l.y.im] 29)).alloc (.cells #[.int .i64 0, .int .i64 0, .int .i64 0, .int .i64 0, .int .i64 0] 33)) := ⟨_, rfl⟩
  rw [← hv]
  have ne_p_l : Hid (w.heap.size ≠ w.heap.size + 1) := by show (w.heap.size : Nat) ≠ w.heap.size + 1; omega
  have ne_p_r : Hid (w.heap.size ≠ w.heap.size + 1 + 1) := by show (w.heap.size : Nat) ≠ w.heap.size + 1 + 1; omega
  have ne_l_r : Hid (w.heap.size + 1 ≠ w.heap.size + 1 + 1) := by show (w.heap.size + 1 : Nat) ≠ w.heap.size + 1 + 1; omega
  have B_p : Hid (Blk v1 (w.heap.size) #[.int .i64 p.a.re, .int .i64 p.a.im, .int .i64 p.b.re, .int .i64 p.b.im, .int .i64 p.c.re, .int .i64 p.c.im, .int .i64 p.d.re, .int .i64 p.d.im] 27) := by show Blk v1 (w.heap.size) _ _; rw [hv]; exact (Blk.alloc (Blk.alloc (Blk.new (by simp)) _) _)
  have low_p : Hid (w.heap.size ≤ w.heap.size) := by show w.heap.size ≤ w.heap.size; have := HO.out.size; omega
  have B_l : Hid (Blk v1 (w.heap.size + 1) #[.int .i64 l.x.re, .int .i64 l.x.im, .int .i64 l.y.re, .int .i64 l.y.im] 29) := by show Blk v1 (w.heap.size + 1) _ _; rw [hv]; exact (Blk.alloc (Blk.new (by simp)) _)
  have low_l : Hid (w.heap.size ≤ w.heap.size + 1) := by show w.heap.size ≤ w.heap.size + 1; have := HO.out.size; omega
  have B_r : Hid (Blk v1 (w.heap.size + 1 + 1) #[.int .i64 0, .int .i64 0, .int .i64 0, .int .i64 0, .int .i64 0] 33) := by show Blk v1 (w.heap.size + 1 + 1) _ _; rw [hv]; exact (Blk.new (by simp))
  have low_r : Hid (w.heap.size ≤ w.heap.size + 1 + 1) := by show w.heap.size ≤ w.heap.size + 1 + 1; have := HO.out.size; omega
  replace HO : Hid (Below w.heap.size w v1) := by show Below w.heap.size w v1; rw [hv]; exact (below_new (below_new (below_new HO.out _) _) _)
  clear hv
  have p_0 := B_p.out.cell (j := 0) rfl
  have p_1 := B_p.out.cell (j := 1) rfl
  have p_2 := B_p.out.cell (j := 2) rfl
  have p_3 := B_p.out.cell (j := 3) rfl
  have p_4 := B_p.out.cell (j := 4) rfl
  have p_5 := B_p.out.cell (j := 5) rfl
  have p_6 := B_p.out.cell (j := 6) rfl
  have p_7 := B_p.out.cell (j := 7) rfl
  have p_f := B_p.out.frozen
  have p_z := B_p.out.lt
  go_wp2_with fail
  refine (splate p.a p.b p.c p.d _).mono ?_
  rintro e v2 ⟨rfl, hb⟩
  clear p_0 p_1 p_2 p_3 p_4 p_5 p_6 p_7 p_f p_z
  replace B_p : Hid (Blk v2 (w.heap.size) #[.int .i64 p.a.re, .int .i64 p.a.im, .int .i64 p.b.re, .int .i64 p.b.im, .int .i64 p.c.re, .int .i64 p.c.im, .int .i64 p.d.re, .int .i64 p.d.im] 27) := by show Blk v2 (w.heap.size) _ _; exact Blk.old B_p.out hb
  replace B_l : Hid (Blk v2 (w.heap.size + 1) #[.int .i64 l.x.re, .int .i64 l.x.im, .int .i64 l.y.re, .int .i64 l.y.im] 29) := by show Blk v2 (w.heap.size + 1) _ _; exact Blk.old B_l.out hb
  replace B_r : Hid (Blk v2 (w.heap.size + 1 + 1) #[.int .i64 0, .int .i64 0, .int .i64 0, .int .i64 0, .int .i64 0] 33) := by show Blk v2 (w.heap.size + 1 + 1) _ _; exact Blk.old B_r.out hb
  replace HO : Hid (Below w.heap.size w v2) := box_step HO.out hb (Nat.le_refl _)
  clear hb
  rw [hp]
  have l_0 := B_l.out.cell (j := 0) rfl
  have l_1 := B_l.out.cell (j := 1) rfl
  have l_2 := B_l.out.cell (j := 2) rfl
  have l_3 := B_l.out.cell (j := 3) rfl
  have l_f := B_l.out.frozen
  have l_z := B_l.out.lt
  go_wp2_with fail
  refine (sjones l.x l.y _).mono ?_
  rintro e v3 ⟨rfl, hb⟩
  clear l_0 l_1 l_2 l_3 l_f l_z
  replace B_p : Hid (Blk v3 (w.heap.size) #[.int .i64 p.a.re, .int .i64 p.a.im, .int .i64 p.b.re, .int .i64 p.b.im, .int .i64 p.c.re, .int .i64 p.c.im, .int .i64 p.d.re, .int .i64 p.d.im] 27) := by show Blk v3 (w.heap.size) _ _; exact Blk.old B_p.out hb
  replace B_l : Hid (Blk v3 (w.heap.size + 1) #[.int .i64 l.x.re, .int .i64 l.x.im, .int .i64 l.y.re, .int .i64 l.y.im] 29) := by show Blk v3 (w.heap.size + 1) _ _; exact Blk.old B_l.out hb
  replace B_r : Hid (Blk v3 (w.heap.size + 1 + 1) #[.int .i64 0, .int .i64 0, .int .i64 0, .int .i64 0, .int .i64 0] 33) := by show Blk v3 (w.heap.size + 1 + 1) _ _; exact Blk.old B_r.out hb
  replace HO : Hid (Below w.heap.size w v3) := box_step HO.out hb (Nat.le_refl _)
  clear hb
  rw [hj]
  go_upto_region 3 with fail
  have k_p_0 : ∀ W, Below v3.heap.size v3 W → W.cell? ⟨w.heap.size, 0, none⟩ = some (.int .i64 p.a.re) := fun _ h => kold h (B_p.out.cell (j := 0) rfl)
  have k_p_1 : ∀ W, Below v3.heap.size v3 W → W.cell? ⟨w.heap.size, 1, none⟩ = some (.int .i64 p.a.im) := fun _ h => kold h (B_p.out.cell (j := 1) rfl)
  have k_p_2 : ∀ W, Below v3.heap.size v3 W → W.cell? ⟨w.heap.size, 2, none⟩ = some (.int .i64 p.b.re) := fun _ h => kold h (B_p.out.cell (j := 2) rfl)
  have k_p_3 : ∀ W, Below v3.heap.size v3 W → W.cell? ⟨w.heap.size, 3, none⟩ = some (.int .i64 p.b.im) := fun _ h => kold h (B_p.out.cell (j := 3) rfl)
  have k_p_4 : ∀ W, Below v3.heap.size v3 W → W.cell? ⟨w.heap.size, 4, none⟩ = some (.int .i64 p.c.re) := fun _ h => kold h (B_p.out.cell (j := 4) rfl)
  have k_p_5 : ∀ W, Below v3.heap.size v3 W → W.cell? ⟨w.heap.size, 5, none⟩ = some (.int .i64 p.c.im) := fun _ h => kold h (B_p.out.cell (j := 5) rfl)
  have k_p_6 : ∀ W, Below v3.heap.size v3 W → W.cell? ⟨w.heap.size, 6, none⟩ = some (.int .i64 p.d.re) := fun _ h => kold h (B_p.out.cell (j := 6) rfl)
  have k_p_7 : ∀ W, Below v3.heap.size v3 W → W.cell? ⟨w.heap.size, 7, none⟩ = some (.int .i64 p.d.im) := fun _ h => kold h (B_p.out.cell (j := 7) rfl)
  have k_l_0 : ∀ W, Below v3.heap.size v3 W → W.cell? ⟨w.heap.size + 1, 0, none⟩ = some (.int .i64 l.x.re) := fun _ h => kold h (B_l.out.cell (j := 0) rfl)
  have k_l_1 : ∀ W, Below v3.heap.size v3 W → W.cell? ⟨w.heap.size + 1, 1, none⟩ = some (.int .i64 l.x.im) := fun _ h => kold h (B_l.out.cell (j := 1) rfl)
  have k_l_2 : ∀ W, Below v3.heap.size v3 W → W.cell? ⟨w.heap.size + 1, 2, none⟩ = some (.int .i64 l.y.re) := fun _ h => kold h (B_l.out.cell (j := 2) rfl)
  have k_l_3 : ∀ W, Below v3.heap.size v3 W → W.cell? ⟨w.heap.size + 1, 3, none⟩ = some (.int .i64 l.y.im) := fun _ h => kold h (B_l.out.cell (j := 3) rfl)
  have hR0 : Below v3.heap.size v3 v3 := Below.refl _ _
  go_wp2_with fail
  go_cut [5] (fun pz wx => ∃ (kx : Nat), pz = .pointer (some ⟨kx, 0, none⟩) ∧ v3.heap.size ≤ kx ∧ Below v3.heap.size v3 wx ∧ Blk wx kx #[.int .i64 ((two p.a l.x p.b l.y).re), .int .i64 ((two p.a l.x p.b l.y).im), .int .i64 ((two p.c l.x p.d l.y).re), .int .i64 ((two p.c l.x p.d l.y).im)] 29)
  case first =>
    go_region_held3 (fun W => Below v3.heap.size v3 W) (go_grown) (first | (go_at_call 64; refine (stwo _ _ _ _ _).mono ?_; rintro e wz ⟨rfl, hb1⟩; have hs1 := hb1.size; (try simp at hs1); have hR1 : Below v3.heap.size v3 wz := (by refine box_step ?_ hb1 (by go_size); go_grown); (first | (have hZ := box_step hZ hb1 (Nat.le_refl _)) | (have hZ := hb1)); obtain ⟨ho1, hf1, hz1⟩ := olds hZ))
    all_goals
      go_wp2_with fail
      go_meet
      case rel =>
        refine ⟨_, rfl, ?_, ?_, ?_⟩
        · omega
        · go_grown
        · first | with_reducible exact Blk.new rfl | with_reducible exact Blk.new (by simp) | exact (Blk.set (cs := #[.int .i64 ((two p.a l.x p.b l.y).re), .int .i64 ((two p.a l.x p.b l.y).im), .int .i64 ((two p.c l.x p.d l.y).re), .int .i64 0]) (Blk.set (cs := #[.int .i64 ((two p.a l.x p.b l.y).re), .int .i64 ((two p.a l.x p.b l.y).im), .int .i64 0, .int .i64 0]) (Blk.set (cs := #[.int .i64 ((two p.a l.x p.b l.y).re), .int .i64 0, .int .i64 0, .int .i64 0]) (Blk.set (cs := #[.int .i64 0, .int .i64 0, .int .i64 0, .int .i64 0]) (newOld hZ) _ _ rfl) _ _ rfl) _ _ rfl) _ _ rfl) | exact (Blk.set (cs := #[.int .i64 ((two p.a l.x p.b l.y).re), .int .i64 ((two p.a l.x p.b l.y).im), .int .i64 ((two p.c l.x p.d l.y).re), .int .i64 0]) (Blk.set (cs := #[.int .i64 ((two p.a l.x p.b l.y).re), .int .i64 ((two p.a l.x p.b l.y).im), .int .i64 0, .int .i64 0]) (Blk.set (cs := #[.int .i64 ((two p.a l.x p.b l.y).re), .int .i64 0, .int .i64 0, .int .i64 0]) (Blk.set (cs := #[.int .i64 0, .int .i64 0, .int .i64 0, .int .i64 0]) (Blk.old (Blk.drew (Blk.new rfl)) hZ) _ _ rfl) _ _ rfl) _ _ rfl) _ _ rfl)
  case rest =>
    obtain ⟨k5, rfl, hk1, hB, hN⟩ := hcut
    clear k_p_0 k_p_1 k_p_2 k_p_3 k_p_4 k_p_5 k_p_6 k_p_7 k_l_0 k_l_1 k_l_2 k_l_3 hR0
    obtain ⟨u4, hv⟩ : ∃ v, v = wc := ⟨_, rfl⟩
    subst hv
    have ne_p_b : Hid (w.heap.size ≠ k5) := Nat.ne_of_lt (Nat.lt_of_lt_of_le B_p.out.lt hk1)
    replace B_p : Hid (Blk u4 (w.heap.size) #[.int .i64 p.a.re, .int .i64 p.a.im, .int .i64 p.b.re, .int .i64 p.b.im, .int .i64 p.c.re, .int .i64 p.c.im, .int .i64 p.d.re, .int .i64 p.d.im] 27) := by show Blk u4 (w.heap.size) _ _; exact Blk.old B_p.out hB
    have ne_l_b : Hid (w.heap.size + 1 ≠ k5) := Nat.ne_of_lt (Nat.lt_of_lt_of_le B_l.out.lt hk1)
    replace B_l : Hid (Blk u4 (w.heap.size + 1) #[.int .i64 l.x.re, .int .i64 l.x.im, .int .i64 l.y.re, .int .i64 l.y.im] 29) := by show Blk u4 (w.heap.size + 1) _ _; exact Blk.old B_l.out hB
    have ne_r_b : Hid (w.heap.size + 1 + 1 ≠ k5) := Nat.ne_of_lt (Nat.lt_of_lt_of_le B_r.out.lt hk1)
    replace B_r : Hid (Blk u4 (w.heap.size + 1 + 1) #[.int .i64 0, .int .i64 0, .int .i64 0, .int .i64 0, .int .i64 0] 33) := by show Blk u4 (w.heap.size + 1 + 1) _ _; exact Blk.old B_r.out hB
    have B_b : Hid (Blk u4 (k5) #[.int .i64 ((two p.a l.x p.b l.y).re), .int .i64 ((two p.a l.x p.b l.y).im), .int .i64 ((two p.c l.x p.d l.y).re), .int .i64 ((two p.c l.x p.d l.y).im)] 29) := hN
    have low_b : Hid (w.heap.size ≤ k5) := Nat.le_trans HO.out.size hk1
    replace HO : Hid (Below w.heap.size w u4) := HO.out.trans (hB.mono HO.out.size)
    clear hB hk1 hN
    have b_0 := B_b.out.cell (j := 0) rfl
    have b_1 := B_b.out.cell (j := 1) rfl
    have b_2 := B_b.out.cell (j := 2) rfl
    have b_3 := B_b.out.cell (j := 3) rfl
    have b_f := B_b.out.frozen
    have b_z := B_b.out.lt
    go_wp2_with fail
    refine (sjones (two p.a l.x p.b l.y) (two p.c l.x p.d l.y) _).mono ?_
    rintro e v6 ⟨rfl, hb⟩
    clear b_0 b_1 b_2 b_3 b_f b_z
    replace B_p : Hid (Blk v6 (w.heap.size) #[.int .i64 p.a.re, .int .i64 p.a.im, .int .i64 p.b.re, .int .i64 p.b.im, .int .i64 p.c.re, .int .i64 p.c.im, .int .i64 p.d.re, .int .i64 p.d.im] 27) := by show Blk v6 (w.heap.size) _ _; exact Blk.old B_p.out hb
    replace B_l : Hid (Blk v6 (w.heap.size + 1) #[.int .i64 l.x.re, .int .i64 l.x.im, .int .i64 l.y.re, .int .i64 l.y.im] 29) := by show Blk v6 (w.heap.size + 1) _ _; exact Blk.old B_l.out hb
    replace B_r : Hid (Blk v6 (w.heap.size + 1 + 1) #[.int .i64 0, .int .i64 0, .int .i64 0, .int .i64 0, .int .i64 0] 33) := by show Blk v6 (w.heap.size + 1 + 1) _ _; exact Blk.old B_r.out hb
    replace B_b : Hid (Blk v6 (k5) #[.int .i64 ((two p.a l.x p.b l.y).re), .int .i64 ((two p.a l.x p.b l.y).im), .int .i64 ((two p.c l.x p.d l.y).re), .int .i64 ((two p.c l.x p.d l.y).im)] 29) := by show Blk v6 (k5) _ _; exact Blk.old B_b.out hb
    replace HO : Hid (Below w.heap.size w v6) := box_step HO.out hb (Nat.le_refl _)
    clear hb
    rw [ho]
    have b_0 := B_b.out.cell (j := 0) rfl
    have b_1 := B_b.out.cell (j := 1) rfl
    have b_2 := B_b.out.cell (j := 2) rfl
    have b_3 := B_b.out.cell (j := 3) rfl
    have b_f := B_b.out.frozen
    have b_z := B_b.out.lt
    have r_0 := B_r.out.cell (j := 0) rfl
    have r_1 := B_r.out.cell (j := 1) rfl
    have r_2 := B_r.out.cell (j := 2) rfl
    have r_3 := B_r.out.cell (j := 3) rfl
    have r_4 := B_r.out.cell (j := 4) rfl
    have r_f := B_r.out.frozen
    have r_z := B_r.out.lt
    go_wp2
    refine bodyPost_ret (v := .agg #[.int .i64 0, .int .i64 ((two p.a l.x p.b l.y).re), .int .i64 ((two p.a l.x p.b l.y).im), .int .i64 ((two p.c l.x p.d l.y).re), .int .i64 ((two p.c l.x p.d l.y).im)]) (by simp [results, Try.results18, go_sem, b_0, b_1, b_2, b_3, b_f, b_z, r_0, r_1, r_2, r_3, r_4, r_f, r_z] <;> (repeat' (first | rfl | apply And.intro))) rfl ⟨rfl, ?_⟩
    exact (Below.setCell (Below.setCell (Below.setCell (Below.setCell (Below.setCell HO.out low_r.out _) low_r.out _) low_r.out _) low_r.out _) low_r.out _)
theorem ipj (p : Pl) (l : Jn) (w : World) : Calls Try.prog 19 #[.agg #[.int .i64 p.a.re, .int .i64 p.a.im, .int .i64 p.b.re, .int .i64 p.b.im, .int .i64 p.c.re, .int .i64 p.c.im, .int .i64 p.d.re, .int .i64 p.d.im], .agg #[.int .i64 l.x.re, .int .i64 l.x.im, .int .i64 l.y.re, .int .i64 l.y.im]] w fun e w' => e = .returned (.agg #[.int .i64 (rcode p l), .int .i64 ((rjon p l).x.re), .int .i64 ((rjon p l).x.im), .int .i64 ((rjon p l).y.re), .int .i64 ((rjon p l).y.im)]) ∧ Below w.heap.size w w' := by
  rcases pcode_or p.a p.b p.c p.d with hp | hp
  · rcases jcode_or l.x l.y with hj | hj
    · rcases jcode_or (pass p l).x (pass p l).y with ho | ho
      · rw [show rcode p l = 0 by simp [rcode, hp, hj, ho], show rjon p l = pass p l by simp [rjon, hp, hj, ho]]; exact ipj_4 p l hp hj ho w
      · rw [show rcode p l = 3 by simp [rcode, ho], show rjon p l = ⟨⟨0, 0⟩, ⟨0, 0⟩⟩ by simp [rjon, ho]]; exact ipj_3 p l hp hj ho w
    · rw [show rcode p l = 3 by simp [rcode, hj], show rjon p l = ⟨⟨0, 0⟩, ⟨0, 0⟩⟩ by simp [rjon, hj]]; exact ipj_2 p l hp hj w
  · rw [show rcode p l = 3 by simp [rcode, hp], show rjon p l = ⟨⟨0, 0⟩, ⟨0, 0⟩⟩ by simp [rjon, hp]]; exact ipj_1 p l hp w
theorem spj (p : Pl) (l : Jn) (w : World) : Calls Try.prog 18 #[.agg #[.int .i64 p.a.re, .int .i64 p.a.im, .int .i64 p.b.re, .int .i64 p.b.im, .int .i64 p.c.re, .int .i64 p.c.im, .int .i64 p.d.re, .int .i64 p.d.im], .agg #[.int .i64 l.x.re, .int .i64 l.x.im, .int .i64 l.y.re, .int .i64 l.y.im]] w fun e w' => e = .returned (.agg #[.int .i64 (rcode p l), .int .i64 ((rjon p l).x.re), .int .i64 ((rjon p l).x.im), .int .i64 ((rjon p l).y.re), .int .i64 ((rjon p l).y.im)]) ∧ Below w.heap.size w w' := by
  rcases pcode_or p.a p.b p.c p.d with hp | hp
  · rcases jcode_or l.x l.y with hj | hj
    · rcases jcode_or (pass p l).x (pass p l).y with ho | ho
      · rw [show rcode p l = 0 by simp [rcode, hp, hj, ho], show rjon p l = pass p l by simp [rjon, hp, hj, ho]]; exact spj_4 p l hp hj ho w
      · rw [show rcode p l = 3 by simp [rcode, ho], show rjon p l = ⟨⟨0, 0⟩, ⟨0, 0⟩⟩ by simp [rjon, ho]]; exact spj_3 p l hp hj ho w
    · rw [show rcode p l = 3 by simp [rcode, hj], show rjon p l = ⟨⟨0, 0⟩, ⟨0, 0⟩⟩ by simp [rjon, hj]]; exact spj_2 p l hp hj w
  · rw [show rcode p l = 3 by simp [rcode, hp], show rjon p l = ⟨⟨0, 0⟩, ⟨0, 0⟩⟩ by simp [rjon, hp]]; exact spj_1 p l hp w
end Go.Proofs.Ytloebnlmeplgbaa
