/- The plates of each kind: both packages, one plain answer. -/
import Derived.Test.YtloebnlmeplgbaaPt
import Derived.Handy
namespace Go.Proofs.Ytloebnlmeplgbaa
open Go.RowKit
set_option linter.unusedVariables false
set_option linter.unusedSimpArgs false
def plk (k : Int) : Pl := if k = 1 then ⟨⟨1, 0⟩, ⟨0, 0⟩, ⟨0, 0⟩, ⟨0, 0⟩⟩ else if k = 2 then ⟨⟨0, 0⟩, ⟨0, 0⟩, ⟨0, 0⟩, ⟨1, 0⟩⟩ else if k = 3 then ⟨⟨1, 0⟩, ⟨0, 0⟩, ⟨0, 0⟩, ⟨0, 1⟩⟩ else if k = 4 then ⟨⟨1, 0⟩, ⟨0, 0⟩, ⟨0, 0⟩, ⟨-1, 0⟩⟩ else if k = 5 then ⟨⟨0, 0⟩, ⟨-1, 0⟩, ⟨1, 0⟩, ⟨0, 0⟩⟩ else if k = 6 then ⟨⟨1, 0⟩, ⟨1, 0⟩, ⟨1, 0⟩, ⟨1, 0⟩⟩ else ⟨⟨0, 0⟩, ⟨0, 0⟩, ⟨0, 0⟩, ⟨0, 0⟩⟩
set_option maxHeartbeats 800000 in
theorem ipassOf_1 (w : World) : Calls Try.prog 80 #[.int .i64 1] w fun e w' => e = .returned (.func (.func 99) #[] #[]) ∧ Below w.heap.size w w' := by
  go_enter Try.func80, Try.ntmps80
  go_wp2
  go_ret
  exact ⟨rfl, Below.refl _ _⟩
set_option maxHeartbeats 1600000 in
theorem iplateOf_1 (w : World) : Calls Try.prog 35 #[.int .i64 1] w fun e w' => e = .returned (.agg #[.int .i64 1, .int .i64 0, .int .i64 0, .int .i64 0, .int .i64 0, .int .i64 0, .int .i64 0, .int .i64 0]) ∧ Below w.heap.size w w' := by
  go_enter Try.func35, Try.ntmps35
  have HO : Hid (Below w.heap.size w w) := Below.refl _ _
  go_upto_region 1 with fail
  obtain ⟨v1, hv⟩ : ∃ Xw, Xw = (w.alloc (.cells #[.int .i64 0, .int .i64 0, .int .i64 0, .int .i64 0, .int .i64 0, .int .i64 0, .int .i64 0, .int .i64 0] 27)) := ⟨_, rfl⟩
  rw [← hv]
  have B_r : Hid (Blk v1 (w.heap.size) #[.int .i64 0, .int .i64 0, .int .i64 0, .int .i64 0, .int .i64 0, .int .i64 0, .int .i64 0, .int .i64 0] 27) := by show Blk v1 (w.heap.size) _ _; rw [hv]; exact (Blk.new (by simp))
  have low_r : Hid (w.heap.size ≤ w.heap.size) := by show w.heap.size ≤ w.heap.size; have := HO.out.size; omega
  replace HO : Hid (Below w.heap.size w v1) := by show Below w.heap.size w v1; rw [hv]; exact (below_new HO.out _)
  clear hv
  go_wp2_with fail
  refine (ipassOf_1 _).mono ?_
  rintro e v2 ⟨rfl, hb⟩
  replace B_r : Hid (Blk v2 (w.heap.size) #[.int .i64 0, .int .i64 0, .int .i64 0, .int .i64 0, .int .i64 0, .int .i64 0, .int .i64 0, .int .i64 0] 27) := by show Blk v2 (w.heap.size) _ _; exact Blk.old B_r.out hb
  replace HO : Hid (Below w.heap.size w v2) := box_step HO.out hb (Nat.le_refl _)
  clear hb
  go_upto_region 2 with fail
  go_wp2_with fail
  refine (ialong ⟨⟨1, 0⟩, ⟨0, 0⟩⟩ _).mono ?_
  rintro e v3 ⟨rfl, hb⟩
  replace B_r : Hid (Blk v3 (w.heap.size) #[.int .i64 0, .int .i64 0, .int .i64 0, .int .i64 0, .int .i64 0, .int .i64 0, .int .i64 0, .int .i64 0] 27) := by show Blk v3 (w.heap.size) _ _; exact Blk.old B_r.out hb
  replace HO : Hid (Below w.heap.size w v3) := box_step HO.out hb (Nat.le_refl _)
  clear hb
  go_wp2_with fail
  refine (ialong ⟨⟨0, 0⟩, ⟨1, 0⟩⟩ _).mono ?_
  rintro e v4 ⟨rfl, hb⟩
  replace B_r : Hid (Blk v4 (w.heap.size) #[.int .i64 0, .int .i64 0, .int .i64 0, .int .i64 0, .int .i64 0, .int .i64 0, .int .i64 0, .int .i64 0] 27) := by show Blk v4 (w.heap.size) _ _; exact Blk.old B_r.out hb
  replace HO : Hid (Below w.heap.size w v4) := box_step HO.out hb (Nat.le_refl _)
  clear hb
  go_wp2_with fail
  refine (icols ⟨1, 0⟩ ⟨0, 0⟩ ⟨0, 0⟩ ⟨0, 0⟩ _).mono ?_
  rintro e v5 ⟨rfl, hb⟩
  replace B_r : Hid (Blk v5 (w.heap.size) #[.int .i64 0, .int .i64 0, .int .i64 0, .int .i64 0, .int .i64 0, .int .i64 0, .int .i64 0, .int .i64 0] 27) := by show Blk v5 (w.heap.size) _ _; exact Blk.old B_r.out hb
  replace HO : Hid (Below w.heap.size w v5) := box_step HO.out hb (Nat.le_refl _)
  clear hb
  have r_0 := B_r.out.cell (j := 0) rfl
  have r_1 := B_r.out.cell (j := 1) rfl
  have r_2 := B_r.out.cell (j := 2) rfl
  have r_3 := B_r.out.cell (j := 3) rfl
  have r_4 := B_r.out.cell (j := 4) rfl
  have r_5 := B_r.out.cell (j := 5) rfl
  have r_6 := B_r.out.cell (j := 6) rfl
  have r_7 := B_r.out.cell (j := 7) rfl
  have r_f := B_r.out.frozen
  have r_z := B_r.out.lt
  go_wp2
  refine bodyPost_ret (v := .agg #[.int .i64 1, .int .i64 0, .int .i64 0, .int .i64 0, .int .i64 0, .int .i64 0, .int .i64 0, .int .i64 0]) (by simp [results, Try.results35, go_sem, gmul, gadd, wrap64, r_0, r_1, r_2, r_3, r_4, r_5, r_6, r_7, r_f, r_z] <;> (repeat' (first | rfl | apply And.intro))) rfl ⟨rfl, ?_⟩
  exact (Below.setCell (Below.setCell (Below.setCell (Below.setCell (Below.setCell (Below.setCell (Below.setCell (Below.setCell HO.out low_r.out _) low_r.out _) low_r.out _) low_r.out _) low_r.out _) low_r.out _) low_r.out _) low_r.out _)
set_option maxHeartbeats 800000 in
theorem splateOf_1 (w : World) : Calls Try.prog 34 #[.int .i64 1] w fun e w' => e = .returned (.agg #[.int .i64 1, .int .i64 0, .int .i64 0, .int .i64 0, .int .i64 0, .int .i64 0, .int .i64 0, .int .i64 0]) ∧ Below w.heap.size w w' := by
  go_enter Try.func34, Try.ntmps34
  go_wp2
  refine bodyPost_ret (v := .agg #[.int .i64 1, .int .i64 0, .int .i64 0, .int .i64 0, .int .i64 0, .int .i64 0, .int .i64 0, .int .i64 0]) (by simp [results, Try.results34, go_sem] <;> (repeat' (first | rfl | apply And.intro))) rfl ⟨rfl, ?_⟩
  go_grown
set_option maxHeartbeats 800000 in
theorem ipassOf_2 (w : World) : Calls Try.prog 80 #[.int .i64 2] w fun e w' => e = .returned (.func (.func 100) #[] #[]) ∧ Below w.heap.size w w' := by
  go_enter Try.func80, Try.ntmps80
  go_wp2
  go_ret
  exact ⟨rfl, Below.refl _ _⟩
set_option maxHeartbeats 1600000 in
theorem iplateOf_2 (w : World) : Calls Try.prog 35 #[.int .i64 2] w fun e w' => e = .returned (.agg #[.int .i64 0, .int .i64 0, .int .i64 0, .int .i64 0, .int .i64 0, .int .i64 0, .int .i64 1, .int .i64 0]) ∧ Below w.heap.size w w' := by
  go_enter Try.func35, Try.ntmps35
  have HO : Hid (Below w.heap.size w w) := Below.refl _ _
  go_upto_region 1 with fail
  obtain ⟨v1, hv⟩ : ∃ Xw, Xw = (w.alloc (.cells #[.int .i64 0, .int .i64 0, .int .i64 0, .int .i64 0, .int .i64 0, .int .i64 0, .int .i64 0, .int .i64 0] 27)) := ⟨_, rfl⟩
  rw [← hv]
  have B_r : Hid (Blk v1 (w.heap.size) #[.int .i64 0, .int .i64 0, .int .i64 0, .int .i64 0, .int .i64 0, .int .i64 0, .int .i64 0, .int .i64 0] 27) := by show Blk v1 (w.heap.size) _ _; rw [hv]; exact (Blk.new (by simp))
  have low_r : Hid (w.heap.size ≤ w.heap.size) := by show w.heap.size ≤ w.heap.size; have := HO.out.size; omega
  replace HO : Hid (Below w.heap.size w v1) := by show Below w.heap.size w v1; rw [hv]; exact (below_new HO.out _)
  clear hv
  go_wp2_with fail
  refine (ipassOf_2 _).mono ?_
  rintro e v2 ⟨rfl, hb⟩
  replace B_r : Hid (Blk v2 (w.heap.size) #[.int .i64 0, .int .i64 0, .int .i64 0, .int .i64 0, .int .i64 0, .int .i64 0, .int .i64 0, .int .i64 0] 27) := by show Blk v2 (w.heap.size) _ _; exact Blk.old B_r.out hb
  replace HO : Hid (Below w.heap.size w v2) := box_step HO.out hb (Nat.le_refl _)
  clear hb
  go_upto_region 2 with fail
  go_wp2_with fail
  refine (iacross ⟨⟨1, 0⟩, ⟨0, 0⟩⟩ _).mono ?_
  rintro e v3 ⟨rfl, hb⟩
  replace B_r : Hid (Blk v3 (w.heap.size) #[.int .i64 0, .int .i64 0, .int .i64 0, .int .i64 0, .int .i64 0, .int .i64 0, .int .i64 0, .int .i64 0] 27) := by show Blk v3 (w.heap.size) _ _; exact Blk.old B_r.out hb
  replace HO : Hid (Below w.heap.size w v3) := box_step HO.out hb (Nat.le_refl _)
  clear hb
  go_wp2_with fail
  refine (iacross ⟨⟨0, 0⟩, ⟨1, 0⟩⟩ _).mono ?_
  rintro e v4 ⟨rfl, hb⟩
  replace B_r : Hid (Blk v4 (w.heap.size) #[.int .i64 0, .int .i64 0, .int .i64 0, .int .i64 0, .int .i64 0, .int .i64 0, .int .i64 0, .int .i64 0] 27) := by show Blk v4 (w.heap.size) _ _; exact Blk.old B_r.out hb
  replace HO : Hid (Below w.heap.size w v4) := box_step HO.out hb (Nat.le_refl _)
  clear hb
  go_wp2_with fail
  refine (icols ⟨0, 0⟩ ⟨0, 0⟩ ⟨0, 0⟩ ⟨1, 0⟩ _).mono ?_
  rintro e v5 ⟨rfl, hb⟩
  replace B_r : Hid (Blk v5 (w.heap.size) #[.int .i64 0, .int .i64 0, .int .i64 0, .int .i64 0, .int .i64 0, .int .i64 0, .int .i64 0, .int .i64 0] 27) := by show Blk v5 (w.heap.size) _ _; exact Blk.old B_r.out hb
  replace HO : Hid (Below w.heap.size w v5) := box_step HO.out hb (Nat.le_refl _)
  clear hb
  have r_0 := B_r.out.cell (j := 0) rfl
  have r_1 := B_r.out.cell (j := 1) rfl
  have r_2 := B_r.out.cell (j := 2) rfl
  have r_3 := B_r.out.cell (j := 3) rfl
  have r_4 := B_r.out.cell (j := 4) rfl
  have r_5 := B_r.out.cell (j := 5) rfl
  have r_6 := B_r.out.cell (j := 6) rfl
  have r_7 := B_r.out.cell (j := 7) rfl
  have r_f := B_r.out.frozen
  have r_z := B_r.out.lt
  go_wp2
  refine bodyPost_ret (v := .agg #[.int .i64 0, .int .i64 0, .int .i64 0, .int .i64 0, .int .i64 0, .int .i64 0, .int .i64 1, .int .i64 0]) (by simp [results, Try.results35, go_sem, gmul, gadd, wrap64, r_0, r_1, r_2, r_3, r_4, r_5, r_6, r_7, r_f, r_z] <;> (repeat' (first | rfl | apply And.intro))) rfl ⟨rfl, ?_⟩
  exact (Below.setCell (Below.setCell (Below.setCell (Below.setCell (Below.setCell (Below.setCell (Below.setCell (Below.setCell HO.out low_r.out _) low_r.out _) low_r.out _) low_r.out _) low_r.out _) low_r.out _) low_r.out _) low_r.out _)
set_option maxHeartbeats 800000 in
theorem splateOf_2 (w : World) : Calls Try.prog 34 #[.int .i64 2] w fun e w' => e = .returned (.agg #[.int .i64 0, .int .i64 0, .int .i64 0, .int .i64 0, .int .i64 0, .int .i64 0, .int .i64 1, .int .i64 0]) ∧ Below w.heap.size w w' := by
  go_enter Try.func34, Try.ntmps34
  go_wp2
  refine bodyPost_ret (v := .agg #[.int .i64 0, .int .i64 0, .int .i64 0, .int .i64 0, .int .i64 0, .int .i64 0, .int .i64 1, .int .i64 0]) (by simp [results, Try.results34, go_sem] <;> (repeat' (first | rfl | apply And.intro))) rfl ⟨rfl, ?_⟩
  go_grown
set_option maxHeartbeats 800000 in
theorem ipassOf_3 (w : World) : Calls Try.prog 80 #[.int .i64 3] w fun e w' => e = .returned (.func (.func 101) #[] #[]) ∧ Below w.heap.size w w' := by
  go_enter Try.func80, Try.ntmps80
  go_wp2
  go_ret
  exact ⟨rfl, Below.refl _ _⟩
set_option maxHeartbeats 1600000 in
theorem iplateOf_3 (w : World) : Calls Try.prog 35 #[.int .i64 3] w fun e w' => e = .returned (.agg #[.int .i64 1, .int .i64 0, .int .i64 0, .int .i64 0, .int .i64 0, .int .i64 0, .int .i64 0, .int .i64 1]) ∧ Below w.heap.size w w' := by
  go_enter Try.func35, Try.ntmps35
  have HO : Hid (Below w.heap.size w w) := Below.refl _ _
  go_upto_region 1 with fail
  obtain ⟨v1, hv⟩ : ∃ Xw, Xw = (w.alloc (.cells #[.int .i64 0, .int .i64 0, .int .i64 0, .int .i64 0, .int .i64 0, .int .i64 0, .int .i64 0, .int .i64 0] 27)) := ⟨_, rfl⟩
  rw [← hv]
  have B_r : Hid (Blk v1 (w.heap.size) #[.int .i64 0, .int .i64 0, .int .i64 0, .int .i64 0, .int .i64 0, .int .i64 0, .int .i64 0, .int .i64 0] 27) := by show Blk v1 (w.heap.size) _ _; rw [hv]; exact (Blk.new (by simp))
  have low_r : Hid (w.heap.size ≤ w.heap.size) := by show w.heap.size ≤ w.heap.size; have := HO.out.size; omega
  replace HO : Hid (Below w.heap.size w v1) := by show Below w.heap.size w v1; rw [hv]; exact (below_new HO.out _)
  clear hv
  go_wp2_with fail
  refine (ipassOf_3 _).mono ?_
  rintro e v2 ⟨rfl, hb⟩
  replace B_r : Hid (Blk v2 (w.heap.size) #[.int .i64 0, .int .i64 0, .int .i64 0, .int .i64 0, .int .i64 0, .int .i64 0, .int .i64 0, .int .i64 0] 27) := by show Blk v2 (w.heap.size) _ _; exact Blk.old B_r.out hb
  replace HO : Hid (Below w.heap.size w v2) := box_step HO.out hb (Nat.le_refl _)
  clear hb
  go_upto_region 2 with fail
  go_wp2_with fail
  refine (iquarter ⟨⟨1, 0⟩, ⟨0, 0⟩⟩ _).mono ?_
  rintro e v3 ⟨rfl, hb⟩
  replace B_r : Hid (Blk v3 (w.heap.size) #[.int .i64 0, .int .i64 0, .int .i64 0, .int .i64 0, .int .i64 0, .int .i64 0, .int .i64 0, .int .i64 0] 27) := by show Blk v3 (w.heap.size) _ _; exact Blk.old B_r.out hb
  replace HO : Hid (Below w.heap.size w v3) := box_step HO.out hb (Nat.le_refl _)
  clear hb
  go_wp2_with fail
  refine (iquarter ⟨⟨0, 0⟩, ⟨1, 0⟩⟩ _).mono ?_
  rintro e v4 ⟨rfl, hb⟩
  replace B_r : Hid (Blk v4 (w.heap.size) #[.int .i64 0, .int .i64 0, .int .i64 0, .int .i64 0, .int .i64 0, .int .i64 0, .int .i64 0, .int .i64 0] 27) := by show Blk v4 (w.heap.size) _ _; exact Blk.old B_r.out hb
  replace HO : Hid (Below w.heap.size w v4) := box_step HO.out hb (Nat.le_refl _)
  clear hb
  go_wp2_with fail
  refine (icols ⟨1, 0⟩ (gmul ⟨0, 0⟩ ⟨0, 1⟩) ⟨0, 0⟩ (gmul ⟨1, 0⟩ ⟨0, 1⟩) _).mono ?_
  rintro e v5 ⟨rfl, hb⟩
  replace B_r : Hid (Blk v5 (w.heap.size) #[.int .i64 0, .int .i64 0, .int .i64 0, .int .i64 0, .int .i64 0, .int .i64 0, .int .i64 0, .int .i64 0] 27) := by show Blk v5 (w.heap.size) _ _; exact Blk.old B_r.out hb
  replace HO : Hid (Below w.heap.size w v5) := box_step HO.out hb (Nat.le_refl _)
  clear hb
  have r_0 := B_r.out.cell (j := 0) rfl
  have r_1 := B_r.out.cell (j := 1) rfl
  have r_2 := B_r.out.cell (j := 2) rfl
  have r_3 := B_r.out.cell (j := 3) rfl
  have r_4 := B_r.out.cell (j := 4) rfl
  have r_5 := B_r.out.cell (j := 5) rfl
  have r_6 := B_r.out.cell (j := 6) rfl
  have r_7 := B_r.out.cell (j := 7) rfl
  have r_f := B_r.out.frozen
  have r_z := B_r.out.lt
  go_wp2
  refine bodyPost_ret (v := .agg #[.int .i64 1, .int .i64 0, .int .i64 0, .int .i64 0, .int .i64 0, .int .i64 0, .int .i64 0, .int .i64 1]) (by simp [results, Try.results35, go_sem, gmul, gadd, wrap64, r_0, r_1, r_2, r_3, r_4, r_5, r_6, r_7, r_f, r_z] <;> (repeat' (first | rfl | apply And.intro))) rfl ⟨rfl, ?_⟩
  exact (Below.setCell (Below.setCell (Below.setCell (Below.setCell (Below.setCell (Below.setCell (Below.setCell (Below.setCell HO.out low_r.out _) low_r.out _) low_r.out _) low_r.out _) low_r.out _) low_r.out _) low_r.out _) low_r.out _)
set_option maxHeartbeats 800000 in
theorem splateOf_3 (w : World) : Calls Try.prog 34 #[.int .i64 3] w fun e w' => e = .returned (.agg #[.int .i64 1, .int .i64 0, .int .i64 0, .int .i64 0, .int .i64 0, .int .i64 0, .int .i64 0, .int .i64 1]) ∧ Below w.heap.size w w' := by
  go_enter Try.func34, Try.ntmps34
  go_wp2
  refine bodyPost_ret (v := .agg #[.int .i64 1, .int .i64 0, .int .i64 0, .int .i64 0, .int .i64 0, .int .i64 0, .int .i64 0, .int .i64 1]) (by simp [results, Try.results34, go_sem] <;> (repeat' (first | rfl | apply And.intro))) rfl ⟨rfl, ?_⟩
  go_grown
set_option maxHeartbeats 800000 in
theorem ipassOf_4 (w : World) : Calls Try.prog 80 #[.int .i64 4] w fun e w' => e = .returned (.func (.func 102) #[] #[]) ∧ Below w.heap.size w w' := by
  go_enter Try.func80, Try.ntmps80
  go_wp2
  go_ret
  exact ⟨rfl, Below.refl _ _⟩
set_option maxHeartbeats 1600000 in
theorem iplateOf_4 (w : World) : Calls Try.prog 35 #[.int .i64 4] w fun e w' => e = .returned (.agg #[.int .i64 1, .int .i64 0, .int .i64 0, .int .i64 0, .int .i64 0, .int .i64 0, .int .i64 (-1), .int .i64 0]) ∧ Below w.heap.size w w' := by
  go_enter Try.func35, Try.ntmps35
  have HO : Hid (Below w.heap.size w w) := Below.refl _ _
  go_upto_region 1 with fail
  obtain ⟨v1, hv⟩ : ∃ Xw, Xw = (w.alloc (.cells #[.int .i64 0, .int .i64 0, .int .i64 0, .int .i64 0, .int .i64 0, .int .i64 0, .int .i64 0, .int .i64 0] 27)) := ⟨_, rfl⟩
  rw [← hv]
  have B_r : Hid (Blk v1 (w.heap.size) #[.int .i64 0, .int .i64 0, .int .i64 0, .int .i64 0, .int .i64 0, .int .i64 0, .int .i64 0, .int .i64 0] 27) := by show Blk v1 (w.heap.size) _ _; rw [hv]; exact (Blk.new (by simp))
  have low_r : Hid (w.heap.size ≤ w.heap.size) := by show w.heap.size ≤ w.heap.size; have := HO.out.size; omega
  replace HO : Hid (Below w.heap.size w v1) := by show Below w.heap.size w v1; rw [hv]; exact (below_new HO.out _)
  clear hv
  go_wp2_with fail
  refine (ipassOf_4 _).mono ?_
  rintro e v2 ⟨rfl, hb⟩
  replace B_r : Hid (Blk v2 (w.heap.size) #[.int .i64 0, .int .i64 0, .int .i64 0, .int .i64 0, .int .i64 0, .int .i64 0, .int .i64 0, .int .i64 0] 27) := by show Blk v2 (w.heap.size) _ _; exact Blk.old B_r.out hb
  replace HO : Hid (Below w.heap.size w v2) := box_step HO.out hb (Nat.le_refl _)
  clear hb
  go_upto_region 2 with fail
  go_wp2_with fail
  refine (ihalf ⟨⟨1, 0⟩, ⟨0, 0⟩⟩ _).mono ?_
  rintro e v3 ⟨rfl, hb⟩
  replace B_r : Hid (Blk v3 (w.heap.size) #[.int .i64 0, .int .i64 0, .int .i64 0, .int .i64 0, .int .i64 0, .int .i64 0, .int .i64 0, .int .i64 0] 27) := by show Blk v3 (w.heap.size) _ _; exact Blk.old B_r.out hb
  replace HO : Hid (Below w.heap.size w v3) := box_step HO.out hb (Nat.le_refl _)
  clear hb
  go_wp2_with fail
  refine (ihalf ⟨⟨0, 0⟩, ⟨1, 0⟩⟩ _).mono ?_
  rintro e v4 ⟨rfl, hb⟩
  replace B_r : Hid (Blk v4 (w.heap.size) #[.int .i64 0, .int .i64 0, .int .i64 0, .int .i64 0, .int .i64 0, .int .i64 0, .int .i64 0, .int .i64 0] 27) := by show Blk v4 (w.heap.size) _ _; exact Blk.old B_r.out hb
  replace HO : Hid (Below w.heap.size w v4) := box_step HO.out hb (Nat.le_refl _)
  clear hb
  go_wp2_with fail
  refine (icols ⟨1, 0⟩ (gmul ⟨0, 0⟩ ⟨-1, 0⟩) ⟨0, 0⟩ (gmul ⟨1, 0⟩ ⟨-1, 0⟩) _).mono ?_
  rintro e v5 ⟨rfl, hb⟩
  replace B_r : Hid (Blk v5 (w.heap.size) #[.int .i64 0, .int .i64 0, .int .i64 0, .int .i64 0, .int .i64 0, .int .i64 0, .int .i64 0, .int .i64 0] 27) := by show Blk v5 (w.heap.size) _ _; exact Blk.old B_r.out hb
  replace HO : Hid (Below w.heap.size w v5) := box_step HO.out hb (Nat.le_refl _)
  clear hb
  have r_0 := B_r.out.cell (j := 0) rfl
  have r_1 := B_r.out.cell (j := 1) rfl
  have r_2 := B_r.out.cell (j := 2) rfl
  have r_3 := B_r.out.cell (j := 3) rfl
  have r_4 := B_r.out.cell (j := 4) rfl
  have r_5 := B_r.out.cell (j := 5) rfl
  have r_6 := B_r.out.cell (j := 6) rfl
  have r_7 := B_r.out.cell (j := 7) rfl
  have r_f := B_r.out.frozen
  have r_z := B_r.out.lt
  go_wp2
  refine bodyPost_ret (v := .agg #[.int .i64 1, .int .i64 0, .int .i64 0, .int .i64 0, .int .i64 0, .int .i64 0, .int .i64 (-1), .int .i64 0]) (by simp [results, Try.results35, go_sem, gmul, gadd, wrap64, r_0, r_1, r_2, r_3, r_4, r_5, r_6, r_7, r_f, r_z] <;> (repeat' (first | rfl | apply And.intro))) rfl ⟨rfl, ?_⟩
  exact (Below.setCell (Below.setCell (Below.setCell (Below.setCell (Below.setCell (Below.setCell (Below.setCell (Below.setCell HO.out low_r.out _) low_r.out _) low_r.out _) low_r.out _) low_r.out _) low_r.out _) low_r.out _) low_r.out _)
set_option maxHeartbeats 800000 in
theorem splateOf_4 (w : World) : Calls Try.prog 34 #[.int .i64 4] w fun e w' => e = .returned (.agg #[.int .i64 1, .int .i64 0, .int .i64 0, .int .i64 0, .int .i64 0, .int .i64 0, .int .i64 (-1), .int .i64 0]) ∧ Below w.heap.size w w' := by
  go_enter Try.func34, Try.ntmps34
  go_wp2
  refine bodyPost_ret (v := .agg #[.int .i64 1, .int .i64 0, .int .i64 0, .int .i64 0, .int .i64 0, .int .i64 0, .int .i64 (-1), .int .i64 0]) (by simp [results, Try.results34, go_sem] <;> (repeat' (first | rfl | apply And.intro))) rfl ⟨rfl, ?_⟩
  go_grown
set_option maxHeartbeats 800000 in
theorem ipassOf_5 (w : World) : Calls Try.prog 80 #[.int .i64 5] w fun e w' => e = .returned (.func (.func 103) #[] #[]) ∧ Below w.heap.size w w' := by
  go_enter Try.func80, Try.ntmps80
  go_wp2
  go_ret
  exact ⟨rfl, Below.refl _ _⟩
set_option maxHeartbeats 1600000 in
theorem iplateOf_5 (w : World) : Calls Try.prog 35 #[.int .i64 5] w fun e w' => e = .returned (.agg #[.int .i64 0, .int .i64 0, .int .i64 (-1), .int .i64 0, .int .i64 1, .int .i64 0, .int .i64 0, .int .i64 0]) ∧ Below w.heap.size w w' := by
  go_enter Try.func35, Try.ntmps35
  have HO : Hid (Below w.heap.size w w) := Below.refl _ _
  go_upto_region 1 with fail
  obtain ⟨v1, hv⟩ : ∃ Xw, Xw = (w.alloc (.cells #[.int .i64 0, .int .i64 0, .int .i64 0, .int .i64 0, .int .i64 0, .int .i64 0, .int .i64 0, .int .i64 0] 27)) := ⟨_, rfl⟩
  rw [← hv]
  have B_r : Hid (Blk v1 (w.heap.size) #[.int .i64 0, .int .i64 0, .int .i64 0, .int .i64 0, .int .i64 0, .int .i64 0, .int .i64 0, .int .i64 0] 27) := by show Blk v1 (w.heap.size) _ _; rw [hv]; exact (Blk.new (by simp))
  have low_r : Hid (w.heap.size ≤ w.heap.size) := by show w.heap.size ≤ w.heap.size; have := HO.out.size; omega
  replace HO : Hid (Below w.heap.size w v1) := by show Below w.heap.size w v1; rw [hv]; exact (below_new HO.out _)
  clear hv
  go_wp2_with fail
  refine (ipassOf_5 _).mono ?_
  rintro e v2 ⟨rfl, hb⟩
  replace B_r : Hid (Blk v2 (w.heap.size) #[.int .i64 0, .int .i64 0, .int .i64 0, .int .i64 0, .int .i64 0, .int .i64 0, .int .i64 0, .int .i64 0] 27) := by show Blk v2 (w.heap.size) _ _; exact Blk.old B_r.out hb
  replace HO : Hid (Below w.heap.size w v2) := box_step HO.out hb (Nat.le_refl _)
  clear hb
  go_upto_region 2 with fail
  go_wp2_with fail
  refine (iturned ⟨⟨1, 0⟩, ⟨0, 0⟩⟩ _).mono ?_
  rintro e v3 ⟨rfl, hb⟩
  replace B_r : Hid (Blk v3 (w.heap.size) #[.int .i64 0, .int .i64 0, .int .i64 0, .int .i64 0, .int .i64 0, .int .i64 0, .int .i64 0, .int .i64 0] 27) := by show Blk v3 (w.heap.size) _ _; exact Blk.old B_r.out hb
  replace HO : Hid (Below w.heap.size w v3) := box_step HO.out hb (Nat.le_refl _)
  clear hb
  go_wp2_with fail
  refine (iturned ⟨⟨0, 0⟩, ⟨1, 0⟩⟩ _).mono ?_
  rintro e v4 ⟨rfl, hb⟩
  replace B_r : Hid (Blk v4 (w.heap.size) #[.int .i64 0, .int .i64 0, .int .i64 0, .int .i64 0, .int .i64 0, .int .i64 0, .int .i64 0, .int .i64 0] 27) := by show Blk v4 (w.heap.size) _ _; exact Blk.old B_r.out hb
  replace HO : Hid (Below w.heap.size w v4) := box_step HO.out hb (Nat.le_refl _)
  clear hb
  go_wp2_with fail
  refine (icols (gmul ⟨0, 0⟩ ⟨-1, 0⟩) ⟨1, 0⟩ (gmul ⟨1, 0⟩ ⟨-1, 0⟩) ⟨0, 0⟩ _).mono ?_
  rintro e v5 ⟨rfl, hb⟩
  replace B_r : Hid (Blk v5 (w.heap.size) #[.int .i64 0, .int .i64 0, .int .i64 0, .int .i64 0, .int .i64 0, .int .i64 0, .int .i64 0, .int .i64 0] 27) := by show Blk v5 (w.heap.size) _ _; exact Blk.old B_r.out hb
  replace HO : Hid (Below w.heap.size w v5) := box_step HO.out hb (Nat.le_refl _)
  clear hb
  have r_0 := B_r.out.cell (j := 0) rfl
  have r_1 := B_r.out.cell (j := 1) rfl
  have r_2 := B_r.out.cell (j := 2) rfl
  have r_3 := B_r.out.cell (j := 3) rfl
  have r_4 := B_r.out.cell (j := 4) rfl
  have r_5 := B_r.out.cell (j := 5) rfl
  have r_6 := B_r.out.cell (j := 6) rfl
  have r_7 := B_r.out.cell (j := 7) rfl
  have r_f := B_r.out.frozen
  have r_z := B_r.out.lt
  go_wp2
  refine bodyPost_ret (v := .agg #[.int .i64 0, .int .i64 0, .int .i64 (-1), .int .i64 0, .int .i64 1, .int .i64 0, .int .i64 0, .int .i64 0]) (by simp [results, Try.results35, go_sem, gmul, gadd, wrap64, r_0, r_1, r_2, r_3, r_4, r_5, r_6, r_7, r_f, r_z] <;> (repeat' (first | rfl | apply And.intro))) rfl ⟨rfl, ?_⟩
  exact (Below.setCell (Below.setCell (Below.setCell (Below.setCell (Below.setCell (Below.setCell (Below.setCell (Below.setCell HO.out low_r.out _) low_r.out _) low_r.out _) low_r.out _) low_r.out _) low_r.out _) low_r.out _) low_r.out _)
set_option maxHeartbeats 800000 in
theorem splateOf_5 (w : World) : Calls Try.prog 34 #[.int .i64 5] w fun e w' => e = .returned (.agg #[.int .i64 0, .int .i64 0, .int .i64 (-1), .int .i64 0, .int .i64 1, .int .i64 0, .int .i64 0, .int .i64 0]) ∧ Below w.heap.size w w' := by
  go_enter Try.func34, Try.ntmps34
  go_wp2
  refine bodyPost_ret (v := .agg #[.int .i64 0, .int .i64 0, .int .i64 (-1), .int .i64 0, .int .i64 1, .int .i64 0, .int .i64 0, .int .i64 0]) (by simp [results, Try.results34, go_sem] <;> (repeat' (first | rfl | apply And.intro))) rfl ⟨rfl, ?_⟩
  go_grown
set_option maxHeartbeats 800000 in
theorem ipassOf_6 (w : World) : Calls Try.prog 80 #[.int .i64 6] w fun e w' => e = .returned (.func (.func 104) #[] #[]) ∧ Below w.heap.size w w' := by
  go_enter Try.func80, Try.ntmps80
  go_wp2
  go_ret
  exact ⟨rfl, Below.refl _ _⟩
set_option maxHeartbeats 1600000 in
theorem iplateOf_6 (w : World) : Calls Try.prog 35 #[.int .i64 6] w fun e w' => e = .returned (.agg #[.int .i64 1, .int .i64 0, .int .i64 1, .int .i64 0, .int .i64 1, .int .i64 0, .int .i64 1, .int .i64 0]) ∧ Below w.heap.size w w' := by
  go_enter Try.func35, Try.ntmps35
  have HO : Hid (Below w.heap.size w w) := Below.refl _ _
  go_upto_region 1 with fail
  obtain ⟨v1, hv⟩ : ∃ Xw, Xw = (w.alloc (.cells #[.int .i64 0, .int .i64 0, .int .i64 0, .int .i64 0, .int .i64 0, .int .i64 0, .int .i64 0, .int .i64 0] 27)) := ⟨_, rfl⟩
  rw [← hv]
  have B_r : Hid (Blk v1 (w.heap.size) #[.int .i64 0, .int .i64 0, .int .i64 0, .int .i64 0, .int .i64 0, .int .i64 0, .int .i64 0, .int .i64 0] 27) := by show Blk v1 (w.heap.size) _ _; rw [hv]; exact (Blk.new (by simp))
  have low_r : Hid (w.heap.size ≤ w.heap.size) := by show w.heap.size ≤ w.heap.size; have := HO.out.size; omega
  replace HO : Hid (Below w.heap.size w v1) := by show Below w.heap.size w v1; rw [hv]; exact (below_new HO.out _)
  clear hv
  go_wp2_with fail
  refine (ipassOf_6 _).mono ?_
  rintro e v2 ⟨rfl, hb⟩
  replace B_r : Hid (Blk v2 (w.heap.size) #[.int .i64 0, .int .i64 0, .int .i64 0, .int .i64 0, .int .i64 0, .int .i64 0, .int .i64 0, .int .i64 0] 27) := by show Blk v2 (w.heap.size) _ _; exact Blk.old B_r.out hb
  replace HO : Hid (Below w.heap.size w v2) := box_step HO.out hb (Nat.le_refl _)
  clear hb
  go_upto_region 2 with fail
  go_wp2_with fail
  refine (idimmed ⟨⟨1, 0⟩, ⟨0, 0⟩⟩ _).mono ?_
  rintro e v3 ⟨rfl, hb⟩
  replace B_r : Hid (Blk v3 (w.heap.size) #[.int .i64 0, .int .i64 0, .int .i64 0, .int .i64 0, .int .i64 0, .int .i64 0, .int .i64 0, .int .i64 0] 27) := by show Blk v3 (w.heap.size) _ _; exact Blk.old B_r.out hb
  replace HO : Hid (Below w.heap.size w v3) := box_step HO.out hb (Nat.le_refl _)
  clear hb
  go_wp2_with fail
  refine (idimmed ⟨⟨0, 0⟩, ⟨1, 0⟩⟩ _).mono ?_
  rintro e v4 ⟨rfl, hb⟩
  replace B_r : Hid (Blk v4 (w.heap.size) #[.int .i64 0, .int .i64 0, .int .i64 0, .int .i64 0, .int .i64 0, .int .i64 0, .int .i64 0, .int .i64 0] 27) := by show Blk v4 (w.heap.size) _ _; exact Blk.old B_r.out hb
  replace HO : Hid (Below w.heap.size w v4) := box_step HO.out hb (Nat.le_refl _)
  clear hb
  go_wp2_with fail
  refine (icols (gadd ⟨1, 0⟩ ⟨0, 0⟩) (gadd ⟨1, 0⟩ ⟨0, 0⟩) (gadd ⟨0, 0⟩ ⟨1, 0⟩) (gadd ⟨0, 0⟩ ⟨1, 0⟩) _).mono ?_
  rintro e v5 ⟨rfl, hb⟩
  replace B_r : Hid (Blk v5 (w.heap.size) #[.int .i64 0, .int .i64 0, .int .i64 0, .int .i64 0, .int .i64 0, .int .i64 0, .int .i64 0, .int .i64 0] 27) := by show Blk v5 (w.heap.size) _ _; exact Blk.old B_r.out hb
  replace HO : Hid (Below w.heap.size w v5) := box_step HO.out hb (Nat.le_refl _)
  clear hb
  have r_0 := B_r.out.cell (j := 0) rfl
  have r_1 := B_r.out.cell (j := 1) rfl
  have r_2 := B_r.out.cell (j := 2) rfl
  have r_3 := B_r.out.cell (j := 3) rfl
  have r_4 := B_r.out.cell (j := 4) rfl
  have r_5 := B_r.out.cell (j := 5) rfl
  have r_6 := B_r.out.cell (j := 6) rfl
  have r_7 := B_r.out.cell (j := 7) rfl
  have r_f := B_r.out.frozen
  have r_z := B_r.out.lt
  go_wp2
  refine bodyPost_ret (v := .agg #[.int .i64 1, .int .i64 0, .int .i64 1, .int .i64 0, .int .i64 1, .int .i64 0, .int .i64 1, .int .i64 0]) (by simp [results, Try.results35, go_sem, gmul, gadd, wrap64, r_0, r_1, r_2, r_3, r_4, r_5, r_6, r_7, r_f, r_z] <;> (repeat' (first | rfl | apply And.intro))) rfl ⟨rfl, ?_⟩
  exact (Below.setCell (Below.setCell (Below.setCell (Below.setCell (Below.setCell (Below.setCell (Below.setCell (Below.setCell HO.out low_r.out _) low_r.out _) low_r.out _) low_r.out _) low_r.out _) low_r.out _) low_r.out _) low_r.out _)
set_option maxHeartbeats 800000 in
theorem splateOf_6 (w : World) : Calls Try.prog 34 #[.int .i64 6] w fun e w' => e = .returned (.agg #[.int .i64 1, .int .i64 0, .int .i64 1, .int .i64 0, .int .i64 1, .int .i64 0, .int .i64 1, .int .i64 0]) ∧ Below w.heap.size w w' := by
  go_enter Try.func34, Try.ntmps34
  go_wp2
  refine bodyPost_ret (v := .agg #[.int .i64 1, .int .i64 0, .int .i64 1, .int .i64 0, .int .i64 1, .int .i64 0, .int .i64 1, .int .i64 0]) (by simp [results, Try.results34, go_sem] <;> (repeat' (first | rfl | apply And.intro))) rfl ⟨rfl, ?_⟩
  go_grown
set_option maxHeartbeats 800000 in
theorem ipassOf_7 (k : Int) (h1 : k ≠ 1) (h2 : k ≠ 2) (h3 : k ≠ 3) (h4 : k ≠ 4) (h5 : k ≠ 5) (h6 : k ≠ 6) (w : World) : Calls Try.prog 80 #[.int .i64 k] w fun e w' => e = .returned (.func (.func 105) #[] #[]) ∧ Below w.heap.size w w' := by
  go_enter Try.func80, Try.ntmps80
  go_wp2
  go_ret
  exact ⟨rfl, Below.refl _ _⟩
set_option maxHeartbeats 1600000 in
theorem iplateOf_7 (k : Int) (h1 : k ≠ 1) (h2 : k ≠ 2) (h3 : k ≠ 3) (h4 : k ≠ 4) (h5 : k ≠ 5) (h6 : k ≠ 6) (w : World) : Calls Try.prog 35 #[.int .i64 k] w fun e w' => e = .returned (.agg #[.int .i64 0, .int .i64 0, .int .i64 0, .int .i64 0, .int .i64 0, .int .i64 0, .int .i64 0, .int .i64 0]) ∧ Below w.heap.size w w' := by
  go_enter Try.func35, Try.ntmps35
  have HO : Hid (Below w.heap.size w w) := Below.refl _ _
  go_upto_region 1 with fail
  obtain ⟨v1, hv⟩ : ∃ Xw, Xw = (w.alloc (.cells #[.int .i64 0, .int .i64 0, .int .i64 0, .int .i64 0, .int .i64 0, .int .i64 0, .int .i64 0, .int .i64 0] 27)) := ⟨_, rfl⟩
  rw [← hv]
  have B_r : Hid (Blk v1 (w.heap.size) #[.int .i64 0, .int .i64 0, .int .i64 0, .int .i64 0, .int .i64 0, .int .i64 0, .int .i64 0, .int .i64 0] 27) := by show Blk v1 (w.heap.size) _ _; rw [hv]; exact (Blk.new (by simp))
  have low_r : Hid (w.heap.size ≤ w.heap.size) := by show w.heap.size ≤ w.heap.size; have := HO.out.size; omega
  replace HO : Hid (Below w.heap.size w v1) := by show Below w.heap.size w v1; rw [hv]; exact (below_new HO.out _)
  clear hv
  go_wp2_with fail
  refine (ipassOf_7 k h1 h2 h3 h4 h5 h6 _).mono ?_
  rintro e v2 ⟨rfl, hb⟩
  replace B_r : Hid (Blk v2 (w.heap.size) #[.int .i64 0, .int .i64 0, .int .i64 0, .int .i64 0, .int .i64 0, .int .i64 0, .int .i64 0, .int .i64 0] 27) := by show Blk v2 (w.heap.size) _ _; exact Blk.old B_r.out hb
  replace HO : Hid (Below w.heap.size w v2) := box_step HO.out hb (Nat.le_refl _)
  clear hb
  go_upto_region 2 with fail
  go_wp2_with fail
  refine (idark ⟨⟨1, 0⟩, ⟨0, 0⟩⟩ _).mono ?_
  rintro e v3 ⟨rfl, hb⟩
  replace B_r : Hid (Blk v3 (w.heap.size) #[.int .i64 0, .int .i64 0, .int .i64 0, .int .i64 0, .int .i64 0, .int .i64 0, .int .i64 0, .int .i64 0] 27) := by show Blk v3 (w.heap.size) _ _; exact Blk.old B_r.out hb
  replace HO : Hid (Below w.heap.size w v3) := box_step HO.out hb (Nat.le_refl _)
  clear hb
  go_wp2_with fail
  refine (idark ⟨⟨0, 0⟩, ⟨1, 0⟩⟩ _).mono ?_
  rintro e v4 ⟨rfl, hb⟩
  replace B_r : Hid (Blk v4 (w.heap.size) #[.int .i64 0, .int .i64 0, .int .i64 0, .int .i64 0, .int .i64 0, .int .i64 0, .int .i64 0, .int .i64 0] 27) := by show Blk v4 (w.heap.size) _ _; exact Blk.old B_r.out hb
  replace HO : Hid (Below w.heap.size w v4) := box_step HO.out hb (Nat.le_refl _)
  clear hb
  go_wp2_with fail
  refine (icols ⟨0, 0⟩ ⟨0, 0⟩ ⟨0, 0⟩ ⟨0, 0⟩ _).mono ?_
  rintro e v5 ⟨rfl, hb⟩
  replace B_r : Hid (Blk v5 (w.heap.size) #[.int .i64 0, .int .i64 0, .int .i64 0, .int .i64 0, .int .i64 0, .int .i64 0, .int .i64 0, .int .i64 0] 27) := by show Blk v5 (w.heap.size) _ _; exact Blk.old B_r.out hb
  replace HO : Hid (Below w.heap.size w v5) := box_step HO.out hb (Nat.le_refl _)
  clear hb
  have r_0 := B_r.out.cell (j := 0) rfl
  have r_1 := B_r.out.cell (j := 1) rfl
  have r_2 := B_r.out.cell (j := 2) rfl
  have r_3 := B_r.out.cell (j := 3) rfl
  have r_4 := B_r.out.cell (j := 4) rfl
  have r_5 := B_r.out.cell (j := 5) rfl
  have r_6 := B_r.out.cell (j := 6) rfl
  have r_7 := B_r.out.cell (j := 7) rfl
  have r_f := B_r.out.frozen
  have r_z := B_r.out.lt
  go_wp2
  refine bodyPost_ret (v := .agg #[.int .i64 0, .int .i64 0, .int .i64 0, .int .i64 0, .int .i64 0, .int .i64 0, .int .i64 0, .int .i64 0]) (by simp [results, Try.results35, go_sem, gmul, gadd, wrap64, r_0, r_1, r_2, r_3, r_4, r_5, r_6, r_7, r_f, r_z] <;> (repeat' (first | rfl | apply And.intro))) rfl ⟨rfl, ?_⟩
  exact (Below.setCell (Below.setCell (Below.setCell (Below.setCell (Below.setCell (Below.setCell (Below.setCell (Below.setCell HO.out low_r.out _) low_r.out _) low_r.out _) low_r.out _) low_r.out _) low_r.out _) low_r.out _) low_r.out _)
set_option maxHeartbeats 800000 in
theorem splateOf_7 (k : Int) (h1 : k ≠ 1) (h2 : k ≠ 2) (h3 : k ≠ 3) (h4 : k ≠ 4) (h5 : k ≠ 5) (h6 : k ≠ 6) (w : World) : Calls Try.prog 34 #[.int .i64 k] w fun e w' => e = .returned (.agg #[.int .i64 0, .int .i64 0, .int .i64 0, .int .i64 0, .int .i64 0, .int .i64 0, .int .i64 0, .int .i64 0]) ∧ Below w.heap.size w w' := by
  go_enter Try.func34, Try.ntmps34
  go_wp2
  refine bodyPost_ret (v := .agg #[.int .i64 0, .int .i64 0, .int .i64 0, .int .i64 0, .int .i64 0, .int .i64 0, .int .i64 0, .int .i64 0]) (by simp [results, Try.results34, go_sem] <;> (repeat' (first | rfl | apply And.intro))) rfl ⟨rfl, ?_⟩
  go_grown
theorem iplateOf (k : Int) (w : World) : Calls Try.prog 35 #[.int .i64 k] w fun e w' => e = .returned (.agg #[.int .i64 ((plk k).a.re), .int .i64 ((plk k).a.im), .int .i64 ((plk k).b.re), .int .i64 ((plk k).b.im), .int .i64 ((plk k).c.re), .int .i64 ((plk k).c.im), .int .i64 ((plk k).d.re), .int .i64 ((plk k).d.im)]) ∧ Below w.heap.size w w' := by
  by_cases h1 : k = 1
  · subst h1; exact iplateOf_1 w
  by_cases h2 : k = 2
  · subst h2; exact iplateOf_2 w
  by_cases h3 : k = 3
  · subst h3; exact iplateOf_3 w
  by_cases h4 : k = 4
  · subst h4; exact iplateOf_4 w
  by_cases h5 : k = 5
  · subst h5; exact iplateOf_5 w
  by_cases h6 : k = 6
  · subst h6; exact iplateOf_6 w
  have e : plk k = ⟨⟨0, 0⟩, ⟨0, 0⟩, ⟨0, 0⟩, ⟨0, 0⟩⟩ := by simp [plk, *]
  rw [e]
  exact iplateOf_7 k h1 h2 h3 h4 h5 h6 w
theorem splateOf (k : Int) (w : World) : Calls Try.prog 34 #[.int .i64 k] w fun e w' => e = .returned (.agg #[.int .i64 ((plk k).a.re), .int .i64 ((plk k).a.im), .int .i64 ((plk k).b.re), .int .i64 ((plk k).b.im), .int .i64 ((plk k).c.re), .int .i64 ((plk k).c.im), .int .i64 ((plk k).d.re), .int .i64 ((plk k).d.im)]) ∧ Below w.heap.size w w' := by
  by_cases h1 : k = 1
  · subst h1; exact splateOf_1 w
  by_cases h2 : k = 2
  · subst h2; exact splateOf_2 w
  by_cases h3 : k = 3
  · subst h3; exact splateOf_3 w
  by_cases h4 : k = 4
  · subst h4; exact splateOf_4 w
  by_cases h5 : k = 5
  · subst h5; exact splateOf_5 w
  by_cases h6 : k = 6
  · subst h6; exact splateOf_6 w
  have e : plk k = ⟨⟨0, 0⟩, ⟨0, 0⟩, ⟨0, 0⟩, ⟨0, 0⟩⟩ := by simp [plk, *]
  rw [e]
  exact splateOf_7 k h1 h2 h3 h4 h5 h6 w
end Go.Proofs.Ytloebnlmeplgbaa
