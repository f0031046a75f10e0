/- The specification's faults of lights and plates. -/
import Derived.Test.YtloebnlmeplgbaaFa
import Derived.Handy
namespace Go.Proofs.Ytloebnlmeplgbaa
open Go.RowKit
set_option linter.unusedVariables false
set_option linter.unusedSimpArgs false
set_option maxRecDepth 20000 in
set_option maxHeartbeats 1600000 in
theorem sjones_0 (a b : Gz)  (ha : gin a = false) (w : World) : Calls Try.prog 28 #[.agg #[.int .i64 a.re, .int .i64 a.im, .int .i64 b.re, .int .i64 b.im]] w fun e w' => e = .returned (.int .i64 (jcode a b)) ∧ Below w.heap.size w w' := by
  go_enter Try.func28, Try.ntmps28
  have HO : Hid (Below w.heap.size w w) := Below.refl _ _
  go_upto_region 1 with fail
  obtain ⟨v1, hv⟩ : ∃ Xw, Xw = (w.alloc (.cells #[.int .i64 a.re, .int .i64 a.im, .int .i64 b.re, .int .i64 b.im] 29)) := ⟨_, rfl⟩
  rw [← hv]
  have B_p : Hid (Blk v1 (w.heap.size) #[.int .i64 a.re, .int .i64 a.im, .int .i64 b.re, .int .i64 b.im] 29) := by show Blk v1 (w.heap.size) _ _; rw [hv]; exact (Blk.new (by simp))
  have low_p : Hid (w.heap.size ≤ w.heap.size) := by show w.heap.size ≤ w.heap.size; have := HO.out.size; omega
  replace HO : Hid (Below w.heap.size w v1) := by show Below w.heap.size w v1; rw [hv]; exact (below_new HO.out _)
  clear hv
  have p_0 := B_p.out.cell (j := 0) rfl
  have p_1 := B_p.out.cell (j := 1) rfl
  have p_2 := B_p.out.cell (j := 2) rfl
  have p_3 := B_p.out.cell (j := 3) rfl
  have p_f := B_p.out.frozen
  have p_z := B_p.out.lt
  go_wp2_with fail
  refine (sin a _).mono ?_
  rintro e v2 ⟨rfl, hb⟩
  clear p_0 p_1 p_2 p_3 p_f p_z
  replace B_p : Hid (Blk v2 (w.heap.size) #[.int .i64 a.re, .int .i64 a.im, .int .i64 b.re, .int .i64 b.im] 29) := by show Blk v2 (w.heap.size) _ _; exact Blk.old B_p.out hb
  replace HO : Hid (Below w.heap.size w v2) := box_step HO.out hb (Nat.le_refl _)
  clear hb
  rw [ha]
  go_wp2
  go_ret
  exact ⟨ret_int (by simp [jcode, ha]), HO.out⟩
set_option maxRecDepth 20000 in
set_option maxHeartbeats 1600000 in
theorem sjones_1 (a b : Gz) (ha : gin a = true) (hb : gin b = false) (w : World) : Calls Try.prog 28 #[.agg #[.int .i64 a.re, .int .i64 a.im, .int .i64 b.re, .int .i64 b.im]] w fun e w' => e = .returned (.int .i64 (jcode a b)) ∧ Below w.heap.size w w' := by
  go_enter Try.func28, Try.ntmps28
  have HO : Hid (Below w.heap.size w w) := Below.refl _ _
  go_upto_region 1 with fail
  obtain ⟨v1, hv⟩ : ∃ Xw, Xw = (w.alloc (.cells #[.int .i64 a.re, .int .i64 a.im, .int .i64 b.re, .int .i64 b.im] 29)) := ⟨_, rfl⟩
  rw [← hv]
  have B_p : Hid (Blk v1 (w.heap.size) #[.int .i64 a.re, .int .i64 a.im, .int .i64 b.re, .int .i64 b.im] 29) := by show Blk v1 (w.heap.size) _ _; rw [hv]; exact (Blk.new (by simp))
  have low_p : Hid (w.heap.size ≤ w.heap.size) := by show w.heap.size ≤ w.heap.size; have := HO.out.size; omega
  replace HO : Hid (Below w.heap.size w v1) := by show Below w.heap.size w v1; rw [hv]; exact (below_new HO.out _)
  clear hv
  have p_0 := B_p.out.cell (j := 0) rfl
  have p_1 := B_p.out.cell (j := 1) rfl
  have p_2 := B_p.out.cell (j := 2) rfl
  have p_3 := B_p.out.cell (j := 3) rfl
  have p_f := B_p.out.frozen
  have p_z := B_p.out.lt
  go_wp2_with fail
  refine (sin a _).mono ?_
  rintro e v2 ⟨rfl, hb⟩
  clear p_0 p_1 p_2 p_3 p_f p_z
  replace B_p : Hid (Blk v2 (w.heap.size) #[.int .i64 a.re, .int .i64 a.im, .int .i64 b.re, .int .i64 b.im] 29) := by show Blk v2 (w.heap.size) _ _; exact Blk.old B_p.out hb
  replace HO : Hid (Below w.heap.size w v2) := box_step HO.out hb (Nat.le_refl _)
  clear hb
  rw [ha]
  have p_0 := B_p.out.cell (j := 0) rfl
  have p_1 := B_p.out.cell (j := 1) rfl
  have p_2 := B_p.out.cell (j := 2) rfl
  have p_3 := B_p.out.cell (j := 3) rfl
  have p_f := B_p.out.frozen
  have p_z := B_p.out.lt
  go_wp2_with fail
  refine (sin b _).mono ?_
  rintro e v3 ⟨rfl, hb⟩
  clear p_0 p_1 p_2 p_3 p_f p_z
  replace B_p : Hid (Blk v3 (w.heap.size) #[.int .i64 a.re, .int .i64 a.im, .int .i64 b.re, .int .i64 b.im] 29) := by show Blk v3 (w.heap.size) _ _; exact Blk.old B_p.out hb
  replace HO : Hid (Below w.heap.size w v3) := box_step HO.out hb (Nat.le_refl _)
  clear hb
  rw [hb]
  go_wp2
  go_ret
  exact ⟨ret_int (by simp [jcode, ha, hb]), HO.out⟩
set_option maxRecDepth 20000 in
set_option maxHeartbeats 1600000 in
theorem sjones_2 (a b : Gz) (ha : gin a = true) (hb : gin b = true) (w : World) : Calls Try.prog 28 #[.agg #[.int .i64 a.re, .int .i64 a.im, .int .i64 b.re, .int .i64 b.im]] w fun e w' => e = .returned (.int .i64 (jcode a b)) ∧ Below w.heap.size w w' := by
  go_enter Try.func28, Try.ntmps28
  have HO : Hid (Below w.heap.size w w) := Below.refl _ _
  go_upto_region 1 with fail
  obtain ⟨v1, hv⟩ : ∃ Xw, Xw = (w.alloc (.cells #[.int .i64 a.re, .int .i64 a.im, .int .i64 b.re, .int .i64 b.im] 29)) := ⟨_, rfl⟩
  rw [← hv]
  have B_p : Hid (Blk v1 (w.heap.size) #[.int .i64 a.re, .int .i64 a.im, .int .i64 b.re, .int .i64 b.im] 29) := by show Blk v1 (w.heap.size) _ _; rw [hv]; exact (Blk.new (by simp))
  have low_p : Hid (w.heap.size ≤ w.heap.size) := by show w.heap.size ≤ w.heap.size; have := HO.out.size; omega
  replace HO : Hid (Below w.heap.size w v1) := by show Below w.heap.size w v1; rw [hv]; exact (below_new HO.out _)
  clear hv
  have p_0 := B_p.out.cell (j := 0) rfl
  have p_1 := B_p.out.cell (j := 1) rfl
  have p_2 := B_p.out.cell (j := 2) rfl
  have p_3 := B_p.out.cell (j := 3) rfl
  have p_f := B_p.out.frozen
  have p_z := B_p.out.lt
  go_wp2_with fail
  refine (sin a _).mono ?_
  rintro e v2 ⟨rfl, hb⟩
  clear p_0 p_1 p_2 p_3 p_f p_z
  replace B_p : Hid (Blk v2 (w.heap.size) #[.int .i64 a.re, .int .i64 a.im, .int .i64 b.re, .int .i64 b.im] 29) := by show Blk v2 (w.heap.size) _ _; exact Blk.old B_p.out hb
  replace HO : Hid (Below w.heap.size w v2) := box_step HO.out hb (Nat.le_refl _)
  clear hb
  rw [ha]
  have p_0 := B_p.out.cell (j := 0) rfl
  have p_1 := B_p.out.cell (j := 1) rfl
  have p_2 := B_p.out.cell (j := 2) rfl
  have p_3 := B_p.out.cell (j := 3) rfl
  have p_f := B_p.out.frozen
  have p_z := B_p.out.lt
  go_wp2_with fail
  refine (sin b _).mono ?_
  rintro e v3 ⟨rfl, hb⟩
  clear p_0 p_1 p_2 p_3 p_f p_z
  replace B_p : Hid (Blk v3 (w.heap.size) #[.int .i64 a.re, .int .i64 a.im, .int .i64 b.re, .int .i64 b.im] 29) := by show Blk v3 (w.heap.size) _ _; exact Blk.old B_p.out hb
  replace HO : Hid (Below w.heap.size w v3) := box_step HO.out hb (Nat.le_refl _)
  clear hb
  rw [hb]
  go_wp2
  go_ret
  exact ⟨ret_int (by simp [jcode, ha, hb]), HO.out⟩
theorem sjones (a b : Gz) (w : World) : Calls Try.prog 28 #[.agg #[.int .i64 a.re, .int .i64 a.im, .int .i64 b.re, .int .i64 b.im]] w fun e w' => e = .returned (.int .i64 (jcode a b)) ∧ Below w.heap.size w w' := by
  cases ha : gin a with
  | false => exact sjones_0 a b ha w
  | true =>
    cases hb : gin b with
    | false => exact sjones_1 a b ha hb w
    | true =>
      exact sjones_2 a b ha hb w
set_option maxRecDepth 20000 in
set_option maxHeartbeats 1600000 in
theorem splate_0 (a b c d : Gz)  (ha : gin a = false) (w : World) : Calls Try.prog 31 #[.agg #[.int .i64 a.re, .int .i64 a.im, .int .i64 b.re, .int .i64 b.im, .int .i64 c.re, .int .i64 c.im, .int .i64 d.re, .int .i64 d.im]] w fun e w' => e = .returned (.int .i64 (pcode a b c d)) ∧ Below w.heap.size w w' := by
  go_enter Try.func31, Try.ntmps31
  have HO : Hid (Below w.heap.size w w) := Below.refl _ _
  go_upto_region 1 with fail
  obtain ⟨v1, hv⟩ : ∃ Xw, Xw = (w.alloc (.cells #[.int .i64 a.re, .int .i64 a.im, .int .i64 b.re, .int .i64 b.im, .int .i64 c.re, .int .i64 c.im, .int .i64 d.re, .int .i64 d.im] 27)) := ⟨_, rfl⟩
  rw [← hv]
  have B_p : Hid (Blk v1 (w.heap.size) #[.int .i64 a.re, .int .i64 a.im, .int .i64 b.re, .int .i64 b.im, .int .i64 c.re, .int .i64 c.im, .int .i64 d.re, .int .i64 d.im] 27) := by show Blk v1 (w.heap.size) _ _; rw [hv]; exact (Blk.new (by simp))
  have low_p : Hid (w.heap.size ≤ w.heap.size) := by show w.heap.size ≤ w.heap.size; have := HO.out.size; omega
  replace HO : Hid (Below w.heap.size w v1) := by show Below w.heap.size w v1; rw [hv]; exact (below_new HO.out _)
  clear hv
  have p_0 := B_p.out.cell (j := 0) rfl
  have p_1 := B_p.out.cell (j := 1) rfl
  have p_2 := B_p.out.cell (j := 2) rfl
  have p_3 := B_p.out.cell (j := 3) rfl
  have p_4 := B_p.out.cell (j := 4) rfl
  have p_5 := B_p.out.cell (j := 5) rfl
  have p_6 := B_p.out.cell (j := 6) rfl
  have p_7 := B_p.out.cell (j := 7) rfl
  have p_f := B_p.out.frozen
  have p_z := B_p.out.lt
  go_wp2_with fail
  refine (sin a _).mono ?_
  rintro e v2 ⟨rfl, hb⟩
  clear p_0 p_1 p_2 p_3 p_4 p_5 p_6 p_7 p_f p_z
  replace B_p : Hid (Blk v2 (w.heap.size) #[.int .i64 a.re, .int .i64 a.im, .int .i64 b.re, .int .i64 b.im, .int .i64 c.re, .int .i64 c.im, .int .i64 d.re, .int .i64 d.im] 27) := by show Blk v2 (w.heap.size) _ _; exact Blk.old B_p.out hb
  replace HO : Hid (Below w.heap.size w v2) := box_step HO.out hb (Nat.le_refl _)
  clear hb
  rw [ha]
  go_wp2
  go_ret
  exact ⟨ret_int (by simp [pcode, ha]), HO.out⟩
set_option maxRecDepth 20000 in
set_option maxHeartbeats 1600000 in
theorem splate_1 (a b c d : Gz) (ha : gin a = true) (hb : gin b = false) (w : World) : Calls Try.prog 31 #[.agg #[.int .i64 a.re, .int .i64 a.im, .int .i64 b.re, .int .i64 b.im, .int .i64 c.re, .int .i64 c.im, .int .i64 d.re, .int .i64 d.im]] w fun e w' => e = .returned (.int .i64 (pcode a b c d)) ∧ Below w.heap.size w w' := by
  go_enter Try.func31, Try.ntmps31
  have HO : Hid (Below w.heap.size w w) := Below.refl _ _
  go_upto_region 1 with fail
  obtain ⟨v1, hv⟩ : ∃ Xw, Xw = (w.alloc (.cells #[.int .i64 a.re, .int .i64 a.im, .int .i64 b.re, .int .i64 b.im, .int .i64 c.re, .int .i64 c.im, .int .i64 d.re, .int .i64 d.im] 27)) := ⟨_, rfl⟩
  rw [← hv]
  have B_p : Hid (Blk v1 (w.heap.size) #[.int .i64 a.re, .int .i64 a.im, .int .i64 b.re, .int .i64 b.im, .int .i64 c.re, .int .i64 c.im, .int .i64 d.re, .int .i64 d.im] 27) := by show Blk v1 (w.heap.size) _ _; rw [hv]; exact (Blk.new (by simp))
  have low_p : Hid (w.heap.size ≤ w.heap.size) := by show w.heap.size ≤ w.heap.size; have := HO.out.size; omega
  replace HO : Hid (Below w.heap.size w v1) := by show Below w.heap.size w v1; rw [hv]; exact (below_new HO.out _)
  clear hv
  have p_0 := B_p.out.cell (j := 0) rfl
  have p_1 := B_p.out.cell (j := 1) rfl
  have p_2 := B_p.out.cell (j := 2) rfl
  have p_3 := B_p.out.cell (j := 3) rfl
  have p_4 := B_p.out.cell (j := 4) rfl
  have p_5 := B_p.out.cell (j := 5) rfl
  have p_6 := B_p.out.cell (j := 6) rfl
  have p_7 := B_p.out.cell (j := 7) rfl
  have p_f := B_p.out.frozen
  have p_z := B_p.out.lt
  go_wp2_with fail
  refine (sin a _).mono ?_
  rintro e v2 ⟨rfl, hb⟩
  clear p_0 p_1 p_2 p_3 p_4 p_5 p_6 p_7 p_f p_z
  replace B_p : Hid (Blk v2 (w.heap.size) #[.int .i64 a.re, .int .i64 a.im, .int .i64 b.re, .int .i64 b.im, .int .i64 c.re, .int .i64 c.im, .int .i64 d.re, .int .i64 d.im] 27) := by show Blk v2 (w.heap.size) _ _; exact Blk.old B_p.out hb
  replace HO : Hid (Below w.heap.size w v2) := box_step HO.out hb (Nat.le_refl _)
  clear hb
  rw [ha]
  have p_0 := B_p.out.cell (j := 0) rfl
  have p_1 := B_p.out.cell (j := 1) rfl
  have p_2 := B_p.out.cell (j := 2) rfl
  have p_3 := B_p.out.cell (j := 3) rfl
  have p_4 := B_p.out.cell (j := 4) rfl
  have p_5 := B_p.out.cell (j := 5) rfl
  have p_6 := B_p.out.cell (j := 6) rfl
  have p_7 := B_p.out.cell (j := 7) rfl
  have p_f := B_p.out.frozen
  have p_z := B_p.out.lt
  go_wp2_with fail
  refine (sin b _).mono ?_
  rintro e v3 ⟨rfl, hb⟩
  clear p_0 p_1 p_2 p_3 p_4 p_5 p_6 p_7 p_f p_z
  replace B_p : Hid (Blk v3 (w.heap.size) #[.int .i64 a.re, .int .i64 a.im, .int .i64 b.re, .int .i64 b.im, .int .i64 c.re, .int .i64 c.im, .int .i64 d.re, .int .i64 d.im] 27) := by show Blk v3 (w.heap.size) _ _; exact Blk.old B_p.out hb
  replace HO : Hid (Below w.heap.size w v3) := box_step HO.out hb (Nat.le_refl _)
  clear hb
  rw [hb]
  go_wp2
  go_ret
  exact ⟨ret_int (by simp [pcode, ha, hb]), HO.out⟩
set_option maxRecDepth 20000 in
set_option maxHeartbeats 1600000 in
theorem splate_2 (a b c d : Gz) (ha : gin a = true) (hb : gin b = true) (hc : gin c = false) (w : World) : Calls Try.prog 31 #[.agg #[.int .i64 a.re, .int .i64 a.im, .int .i64 b.re, .int .i64 b.im, .int .i64 c.re, .int .i64 c.im, .int .i64 d.re, .int .i64 d.im]] w fun e w' => e = .returned (.int .i64 (pcode a b c d)) ∧ Below w.heap.size w w' := by
  go_enter Try.func31, Try.ntmps31
  have HO : Hid (Below w.heap.size w w) := Below.refl _ _
  go_upto_region 1 with fail
  obtain ⟨v1, hv⟩ : ∃ Xw, Xw = (w.alloc (.cells #[.int .i64 a.re, .int .i64 a.im, .int .i64 b.re, .int .i64 b.im, .int .i64 c.re, .int .i64 c.im, .int .i64 d.re, .int .i64 d.im] 27)) := ⟨_, rfl⟩
  rw [← hv]
  have B_p : Hid (Blk v1 (w.heap.size) #[.int .i64 a.re, .int .i64 a.im, .int .i64 b.re, .int .i64 b.im, .int .i64 c.re, .int .i64 c.im, .int .i64 d.re, .int .i64 d.im] 27) := by show Blk v1 (w.heap.size) _ _; rw [hv]; exact (Blk.new (by simp))
  have low_p : Hid (w.heap.size ≤ w.heap.size) := by show w.heap.size ≤ w.heap.size; have := HO.out.size; omega
  replace HO : Hid (Below w.heap.size w v1) := by show Below w.heap.size w v1; rw [hv]; exact (below_new HO.out _)
  clear hv
  have p_0 := B_p.out.cell (j := 0) rfl
  have p_1 := B_p.out.cell (j := 1) rfl
  have p_2 := B_p.out.cell (j := 2) rfl
  have p_3 := B_p.out.cell (j := 3) rfl
  have p_4 := B_p.out.cell (j := 4) rfl
  have p_5 := B_p.out.cell (j := 5) rfl
  have p_6 := B_p.out.cell (j := 6) rfl
  have p_7 := B_p.out.cell (j := 7) rfl
  have p_f := B_p.out.frozen
  have p_z := B_p.out.lt
  go_wp2_with fail
  refine (sin a _).mono ?_
  rintro e v2 ⟨rfl, hb⟩
  clear p_0 p_1 p_2 p_3 p_4 p_5 p_6 p_7 p_f p_z
  replace B_p : Hid (Blk v2 (w.heap.size) #[.int .i64 a.re, .int .i64 a.im, .int .i64 b.re, .int .i64 b.im, .int .i64 c.re, .int .i64 c.im, .int .i64 d.re, .int .i64 d.im] 27) := by show Blk v2 (w.heap.size) _ _; exact Blk.old B_p.out hb
  replace HO : Hid (Below w.heap.size w v2) := box_step HO.out hb (Nat.le_refl _)
  clear hb
  rw [ha]
  have p_0 := B_p.out.cell (j := 0) rfl
  have p_1 := B_p.out.cell (j := 1) rfl
  have p_2 := B_p.out.cell (j := 2) rfl
  have p_3 := B_p.out.cell (j := 3) rfl
  have p_4 := B_p.out.cell (j := 4) rfl
  have p_5 := B_p.out.cell (j := 5) rfl
  have p_6 := B_p.out.cell (j := 6) rfl
  have p_7 := B_p.out.cell (j := 7) rfl
  have p_f := B_p.out.frozen
  have p_z := B_p.out.lt
  go_wp2_with fail
  refine (sin b _).mono ?_
  rintro e v3 ⟨rfl, hb⟩
  clear p_0 p_1 p_2 p_3 p_4 p_5 p_6 p_7 p_f p_z
  replace B_p : Hid (Blk v3 (w.heap.size) #[.int .i64 a.re, .int .i64 a.im, .int .i64 b.re, .int .i64 b.im, .int .i64 c.re, .int .i64 c.im, .int .i64 d.re, .int .i64 d.im] 27) := by show Blk v3 (w.heap.size) _ _; exact Blk.old B_p.out hb
  replace HO : Hid (Below w.heap.size w v3) := box_step HO.out hb (Nat.le_refl _)
  clear hb
  rw [hb]
  have p_0 := B_p.out.cell (j := 0) rfl
  have p_1 := B_p.out.cell (j := 1) rfl
  have p_2 := B_p.out.cell (j := 2) rfl
  have p_3 := B_p.out.cell (j := 3) rfl
  have p_4 := B_p.out.cell (j := 4) rfl
  have p_5 := B_p.out.cell (j := 5) rfl
  have p_6 := B_p.out.cell (j := 6) rfl
  have p_7 := B_p.out.cell (j := 7) rfl
  have p_f := B_p.out.frozen
  have p_z := B_p.out.lt
  go_wp2_with fail
  refine (sin c _).mono ?_
  rintro e v4 ⟨rfl, hb⟩
  clear p_0 p_1 p_2 p_3 p_4 p_5 p_6 p_7 p_f p_z
  replace B_p : Hid (Blk v4 (w.heap.size) #[.int .i64 a.re, .int .i64 a.im, .int .i64 b.re, .int .i64 b.im, .int .i64 c.re, .int .i64 c.im, .int .i64 d.re, .int .i64 d.im] 27) := by show Blk v4 (w.heap.size) _ _; exact Blk.old B_p.out hb
  replace HO : Hid (Below w.heap.size w v4) := box_step HO.out hb (Nat.le_refl _)
  clear hb
  rw [hc]
  go_wp2
  go_ret
  exact ⟨ret_int (by simp [pcode, ha, hb, hc]), HO.out⟩
set_option maxRecDepth 20000 in
set_option maxHeartbeats 1600000 in
theorem splate_3 (a b c d : Gz) (ha : gin a = true) (hb : gin b = true) (hc : gin c = true) (hd : gin d = false) (w : World) : Calls Try.prog 31 #[.agg #[.int .i64 a.re, .int .i64 a.im, .int .i64 b.re, .int .i64 b.im, .int .i64 c.re, .int .i64 c.im, .int .i64 d.re, .int .i64 d.im]] w fun e w' => e = .returned (.int .i64 (pcode a b c d)) ∧ Below w.heap.size w w' := by
  go_enter Try.func31, Try.ntmps31
  have HO : Hid (Below w.heap.size w w) := Below.refl _ _
  go_upto_region 1 with fail
  obtain ⟨v1, hv⟩ : ∃ Xw, Xw = (w.alloc (.cells #[.int .i64 a.re, .int .i64 a.im, .int .i64 b.re, .int .i64 b.im, .int .i64 c.re, .int .i64 c.im, .int .i64 d.re, .int .i64 d.im] 27)) := ⟨_, rfl⟩
  rw [← hv]
  have B_p : Hid (Blk v1 (w.heap.size) #[.int .i64 a.re, .int .i64 a.im, .int .i64 b.re, .int .i64 b.im, .int .i64 c.re, .int .i64 c.im, .int .i64 d.re, .int .i64 d.im] 27) := by show Blk v1 (w.heap.size) _ _; rw [hv]; exact (Blk.new (by simp))
  have low_p : Hid (w.heap.size ≤ w.heap.size) := by show w.heap.size ≤ w.heap.size; have := HO.out.size; omega
  replace HO : Hid (Below w.heap.size w v1) := by show Below w.heap.size w v1; rw [hv]; exact (below_new HO.out _)
  clear hv
  have p_0 := B_p.out.cell (j := 0) rfl
  have p_1 := B_p.out.cell (j := 1) rfl
  have p_2 := B_p.out.cell (j := 2) rfl
  have p_3 := B_p.out.cell (j := 3) rfl
  have p_4 := B_p.out.cell (j := 4) rfl
  have p_5 := B_p.out.cell (j := 5) rfl
  have p_6 := B_p.out.cell (j := 6) rfl
  have p_7 := B_p.out.cell (j := 7) rfl
  have p_f := B_p.out.frozen
  have p_z := B_p.out.lt
  go_wp2_with fail
  refine (sin a _).mono ?_
  rintro e v2 ⟨rfl, hb⟩
  clear p_0 p_1 p_2 p_3 p_4 p_5 p_6 p_7 p_f p_z
  replace B_p : Hid (Blk v2 (w.heap.size) #[.int .i64 a.re, .int .i64 a.im, .int .i64 b.re, .int .i64 b.im, .int .i64 c.re, .int .i64 c.im, .int .i64 d.re, .int .i64 d.im] 27) := by show Blk v2 (w.heap.size) _ _; exact Blk.old B_p.out hb
  replace HO : Hid (Below w.heap.size w v2) := box_step HO.out hb (Nat.le_refl _)
  clear hb
  rw [ha]
  have p_0 := B_p.out.cell (j := 0) rfl
  have p_1 := B_p.out.cell (j := 1) rfl
  have p_2 := B_p.out.cell (j := 2) rfl
  have p_3 := B_p.out.cell (j := 3) rfl
  have p_4 := B_p.out.cell (j := 4) rfl
  have p_5 := B_p.out.cell (j := 5) rfl
  have p_6 := B_p.out.cell (j := 6) rfl
  have p_7 := B_p.out.cell (j := 7) rfl
  have p_f := B_p.out.frozen
  have p_z := B_p.out.lt
  go_wp2_with fail
  refine (sin b _).mono ?_
  rintro e v3 ⟨rfl, hb⟩
  clear p_0 p_1 p_2 p_3 p_4 p_5 p_6 p_7 p_f p_z
  replace B_p : Hid (Blk v3 (w.heap.size) #[.int .i64 a.re, .int .i64 a.im, .int .i64 b.re, .int .i64 b.im, .int .i64 c.re, .int .i64 c.im, .int .i64 d.re, .int .i64 d.im] 27) := by show Blk v3 (w.heap.size) _ _; exact Blk.old B_p.out hb
  replace HO : Hid (Below w.heap.size w v3) := box_step HO.out hb (Nat.le_refl _)
  clear hb
  rw [hb]
  have p_0 := B_p.out.cell (j := 0) rfl
  have p_1 := B_p.out.cell (j := 1) rfl
  have p_2 := B_p.out.cell (j := 2) rfl
  have p_3 := B_p.out.cell (j := 3) rfl
  have p_4 := B_p.out.cell (j := 4) rfl
  have p_5 := B_p.out.cell (j := 5) rfl
  have p_6 := B_p.out.cell (j := 6) rfl
  have p_7 := B_p.out.cell (j := 7) rfl
  have p_f := B_p.out.frozen
  have p_z := B_p.out.lt
  go_wp2_with fail
  refine (sin c _).mono ?_
  rintro e v4 ⟨rfl, hb⟩
  clear p_0 p_1 p_2 p_3 p_4 p_5 p_6 p_7 p_f p_z
  replace B_p : Hid (Blk v4 (w.heap.size) #[.int .i64 a.re, .int .i64 a.im, .int .i64 b.re, .int .i64 b.im, .int .i64 c.re, .int .i64 c.im, .int .i64 d.re, .int .i64 d.im] 27) := by show Blk v4 (w.heap.size) _ _; exact Blk.old B_p.out hb
  replace HO : Hid (Below w.heap.size w v4) := box_step HO.out hb (Nat.le_refl _)
  clear hb
  rw [hc]
  have p_0 := B_p.out.cell (j := 0) rfl
  have p_1 := B_p.out.cell (j := 1) rfl
  have p_2 := B_p.out.cell (j := 2) rfl
  have p_3 := B_p.out.cell (j := 3) rfl
  have p_4 := B_p.out.cell (j := 4) rfl
  have p_5 := B_p.out.cell (j := 5) rfl
  have p_6 := B_p.out.cell (j := 6) rfl
  have p_7 := B_p.out.cell (j := 7) rfl
  have p_f := B_p.out.frozen
  have p_z := B_p.out.lt
  go_wp2_with fail
  refine (sin d _).mono ?_
  rintro e v5 ⟨rfl, hb⟩
  clear p_0 p_1 p_2 p_3 p_4 p_5 p_6 p_7 p_f p_z
  replace B_p : Hid (Blk v5 (w.heap.size) #[.int .i64 a.re, .int .i64 a.im, .int .i64 b.re, .int .i64 b.im, .int .i64 c.re, .int .i64 c.im, .int .i64 d.re, .int .i64 d.im] 27) := by show Blk v5 (w.heap.size) _ _; exact Blk.old B_p.out hb
  replace HO : Hid (Below w.heap.size w v5) := box_step HO.out hb (Nat.le_refl _)
  clear hb
  rw [hd]
  go_wp2
  go_ret
  exact ⟨ret_int (by simp [pcode, ha, hb, hc, hd]), HO.out⟩
set_option maxRecDepth 20000 in
set_option maxHeartbeats 1600000 in
theorem splate_4 (a b c d : Gz) (ha : gin a = true) (hb : gin b = true) (hc : gin c = true) (hd : gin d = true) (w : World) : Calls Try.prog 31 #[.agg #[.int .i64 a.re, .int .i64 a.im, .int .i64 b.re, .int .i64 b.im, .int .i64 c.re, .int .i64 c.im, .int .i64 d.re, .int .i64 d.im]] w fun e w' => e = .returned (.int .i64 (pcode a b c d)) ∧ Below w.heap.size w w' := by
  go_enter Try.func31, Try.ntmps31
  have HO : Hid (Below w.heap.size w w) := Below.refl _ _
  go_upto_region 1 with fail
  obtain ⟨v1, hv⟩ : ∃ Xw, Xw = (w.alloc (.cells #[.int .i64 a.re, .int .i64 a.im, .int .i64 b.re, .int .i64 b.im, .int .i64 c.re, .int .i64 c.im, .int .i64 d.re, .int .i64 d.im] 27)) := ⟨_, rfl⟩
  rw [← hv]
  have B_p : Hid (Blk v1 (w.heap.size) #[.int .i64 a.re, .int .i64 a.im, .int .i64 b.re, .int .i64 b.im, .int .i64 c.re, .int .i64 c.im, .int .i64 d.re, .int .i64 d.im] 27) := by show Blk v1 (w.heap.size) _ _; rw [hv]; exact (Blk.new (by simp))
  have low_p : Hid (w.heap.size ≤ w.heap.size) := by show w.heap.size ≤ w.heap.size; have := HO.out.size; omega
  replace HO : Hid (Below w.heap.size w v1) := by show Below w.heap.size w v1; rw [hv]; exact (below_new HO.out _)
  clear hv
  have p_0 := B_p.out.cell (j := 0) rfl
  have p_1 := B_p.out.cell (j := 1) rfl
  have p_2 := B_p.out.cell (j := 2) rfl
  have p_3 := B_p.out.cell (j := 3) rfl
  have p_4 := B_p.out.cell (j := 4) rfl
  have p_5 := B_p.out.cell (j := 5) rfl
  have p_6 := B_p.out.cell (j := 6) rfl
  have p_7 := B_p.out.cell (j := 7) rfl
  have p_f := B_p.out.frozen
  have p_z := B_p.out.lt
  go_wp2_with fail
  refine (sin a _).mono ?_
  rintro e v2 ⟨rfl, hb⟩
  clear p_0 p_1 p_2 p_3 p_4 p_5 p_6 p_7 p_f p_z
  replace B_p : Hid (Blk v2 (w.heap.size) #[.int .i64 a.re, .int .i64 a.im, .int .i64 b.re, .int .i64 b.im, .int .i64 c.re, .int .i64 c.im, .int .i64 d.re, .int .i64 d.im] 27) := by show Blk v2 (w.heap.size) _ _; exact Blk.old B_p.out hb
  replace HO : Hid (Below w.heap.size w v2) := box_step HO.out hb (Nat.le_refl _)
  clear hb
  rw [ha]
  have p_0 := B_p.out.cell (j := 0) rfl
  have p_1 := B_p.out.cell (j := 1) rfl
  have p_2 := B_p.out.cell (j := 2) rfl
  have p_3 := B_p.out.cell (j := 3) rfl
  have p_4 := B_p.out.cell (j := 4) rfl
  have p_5 := B_p.out.cell (j := 5) rfl
  have p_6 := B_p.out.cell (j := 6) rfl
  have p_7 := B_p.out.cell (j := 7) rfl
  have p_f := B_p.out.frozen
  have p_z := B_p.out.lt
  go_wp2_with fail
  refine (sin b _).mono ?_
  rintro e v3 ⟨rfl, hb⟩
  clear p_0 p_1 p_2 p_3 p_4 p_5 p_6 p_7 p_f p_z
  replace B_p : Hid (Blk v3 (w.heap.size) #[.int .i64 a.re, .int .i64 a.im, .int .i64 b.re, .int .i64 b.im, .int .i64 c.re, .int .i64 c.im, .int .i64 d.re, .int .i64 d.im] 27) := by show Blk v3 (w.heap.size) _ _; exact Blk.old B_p.out hb
  replace HO : Hid (Below w.heap.size w v3) := box_step HO.out hb (Nat.le_refl _)
  clear hb
  rw [hb]
  have p_0 := B_p.out.cell (j := 0) rfl
  have p_1 := B_p.out.cell (j := 1) rfl
  have p_2 := B_p.out.cell (j := 2) rfl
  have p_3 := B_p.out.cell (j := 3) rfl
  have p_4 := B_p.out.cell (j := 4) rfl
  have p_5 := B_p.out.cell (j := 5) rfl
  have p_6 := B_p.out.cell (j := 6) rfl
  have p_7 := B_p.out.cell (j := 7) rfl
  have p_f := B_p.out.frozen
  have p_z := B_p.out.lt
  go_wp2_with fail
  refine (sin c _).mono ?_
  rintro e v4 ⟨rfl, hb⟩
  clear p_0 p_1 p_2 p_3 p_4 p_5 p_6 p_7 p_f p_z
  replace B_p : Hid (Blk v4 (w.heap.size) #[.int .i64 a.re, .int .i64 a.im, .int .i64 b.re, .int .i64 b.im, .int .i64 c.re, .int .i64 c.im, .int .i64 d.re, .int .i64 d.im] 27) := by show Blk v4 (w.heap.size) _ _; exact Blk.old B_p.out hb
  replace HO : Hid (Below w.heap.size w v4) := box_step HO.out hb (Nat.le_refl _)
  clear hb
  rw [hc]
  have p_0 := B_p.out.cell (j := 0) rfl
  have p_1 := B_p.out.cell (j := 1) rfl
  have p_2 := B_p.out.cell (j := 2) rfl
  have p_3 := B_p.out.cell (j := 3) rfl
  have p_4 := B_p.out.cell (j := 4) rfl
  have p_5 := B_p.out.cell (j := 5) rfl
  have p_6 := B_p.out.cell (j := 6) rfl
  have p_7 := B_p.out.cell (j := 7) rfl
  have p_f := B_p.out.frozen
  have p_z := B_p.out.lt
  go_wp2_with fail
  refine (sin d _).mono ?_
  rintro e v5 ⟨rfl, hb⟩
  clear p_0 p_1 p_2 p_3 p_4 p_5 p_6 p_7 p_f p_z
  replace B_p : Hid (Blk v5 (w.heap.size) #[.int .i64 a.re, .int .i64 a.im, .int .i64 b.re, .int .i64 b.im, .int .i64 c.re, .int .i64 c.im, .int .i64 d.re, .int .i64 d.im] 27) := by show Blk v5 (w.heap.size) _ _; exact Blk.old B_p.out hb
  replace HO : Hid (Below w.heap.size w v5) := box_step HO.out hb (Nat.le_refl _)
  clear hb
  rw [hd]
  go_wp2
  go_ret
  exact ⟨ret_int (by simp [pcode, ha, hb, hc, hd]), HO.out⟩
theorem splate (a b c d : Gz) (w : World) : Calls Try.prog 31 #[.agg #[.int .i64 a.re, .int .i64 a.im, .int .i64 b.re, .int .i64 b.im, .int .i64 c.re, .int .i64 c.im, .int .i64 d.re, .int .i64 d.im]] w fun e w' => e = .returned (.int .i64 (pcode a b c d)) ∧ Below w.heap.size w w' := by
  cases ha : gin a with
  | false => exact splate_0 a b c d ha w
  | true =>
    cases hb : gin b with
    | false => exact splate_1 a b c d ha hb w
    | true =>
      cases hc : gin c with
      | false => exact splate_2 a b c d ha hb hc w
      | true =>
        cases hd : gin d with
        | false => exact splate_3 a b c d ha hb hc hd w
        | true =>
          exact splate_4 a b c d ha hb hc hd w
end Go.Proofs.Ytloebnlmeplgbaa
