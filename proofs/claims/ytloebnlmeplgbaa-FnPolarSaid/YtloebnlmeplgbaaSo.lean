/- A light's four numbers: both packages, one plain answer. -/
import Derived.Test.YtloebnlmeplgbaaSf
import Derived.Handy
namespace Go.Proofs.Ytloebnlmeplgbaa
open Go.RowKit
set_option linter.unusedVariables false
set_option linter.unusedSimpArgs false
theorem wi64 (n : Int) : IntKind.i64.wrap n = wrap64 n := by unfold wrap64; exact IntKind.wrap_i64 n
def sok (l : Jn) : Sk := ⟨wrap64 (gsq l.x + gsq l.y), wrap64 (gsq l.x - gsq l.y), wrap64 (2 * gr l.x l.y), wrap64 (2 * gs l.x l.y)⟩
def stk (l : Jn) : Sk := if jcode l.x l.y = 0 then sok l else ⟨0, 0, 0, 0⟩
theorem jc_or (a b : Gz) : jcode a b = 0 ∨ jcode a b = 3 := by unfold jcode; split <;> simp
set_option maxRecDepth 20000 in
set_option maxHeartbeats 1600000 in
theorem iso_3 (l : Jn) (hj : jcode l.x l.y = 3) (w : World) : Calls Try.prog 20 #[.agg #[.int .i64 l.x.re, .int .i64 l.x.im, .int .i64 l.y.re, .int .i64 l.y.im]] w fun e w' => e = .returned (.agg #[.int .i64 3, .int .i64 0, .int .i64 0, .int .i64 0, .int .i64 0]) ∧ Below w.heap.size w w' := by
  go_enter Try.func20, Try.ntmps20
  have HO : Hid (Below w.heap.size w w) := Below.refl _ _
  go_upto_region 1 with fail
  obtain ⟨v1, hv⟩ : ∃ Xw, Xw = ((w.alloc (.cells #[.int .i64 l.x.re, .int .i64 l.x.im, .int .i64 l.y.re, .int .i64 l.y.im] 29)).alloc (.cells #[.int .i64 0, .int .i64 0, .int .i64 0, .int .i64 0, .int .i64 0] 38)) := ⟨_, rfl⟩
  rw [← hv]
  have ne_l_r : Hid (w.heap.size ≠ w.heap.size + 1) := by show (w.heap.size : Nat) ≠ w.heap.size + 1; omega
  have B_l : Hid (Blk v1 (w.heap.size) #[.int .i64 l.x.re, .int .i64 l.x.im, .int .i64 l.y.re, .int .i64 l.y.im] 29) := by show Blk v1 (w.heap.size) _ _; rw [hv]; exact (Blk.alloc (Blk.new (by simp)) _)
  have low_l : Hid (w.heap.size ≤ w.heap.size) := by show w.heap.size ≤ w.heap.size; have := HO.out.size; omega
  have B_r : Hid (Blk v1 (w.heap.size + 1) #[.int .i64 0, .int .i64 0, .int .i64 0, .int .i64 0, .int .i64 0] 38) := by show Blk v1 (w.heap.size + 1) _ _; rw [hv]; exact (Blk.new (by simp))
  have low_r : Hid (w.heap.size ≤ w.heap.size + 1) := by show w.heap.size ≤ w.heap.size + 1; have := HO.out.size; omega
  replace HO : Hid (Below w.heap.size w v1) := by show Below w.heap.size w v1; rw [hv]; exact (below_new (below_new HO.out _) _)
  clear hv
  have l_0 := B_l.out.cell (j := 0) rfl
  have l_1 := B_l.out.cell (j := 1) rfl
  have l_2 := B_l.out.cell (j := 2) rfl
  have l_3 := B_l.out.cell (j := 3) rfl
  have l_f := B_l.out.frozen
  have l_z := B_l.out.lt
  go_wp2_with fail
  refine (ijones l.x l.y _).mono ?_
  rintro e v2 ⟨rfl, hb⟩
  clear l_0 l_1 l_2 l_3 l_f l_z
  replace B_l : Hid (Blk v2 (w.heap.size) #[.int .i64 l.x.re, .int .i64 l.x.im, .int .i64 l.y.re, .int .i64 l.y.im] 29) := by show Blk v2 (w.heap.size) _ _; exact Blk.old B_l.out hb
  replace B_r : Hid (Blk v2 (w.heap.size + 1) #[.int .i64 0, .int .i64 0, .int .i64 0, .int .i64 0, .int .i64 0] 38) := by show Blk v2 (w.heap.size + 1) _ _; exact Blk.old B_r.out hb
  replace HO : Hid (Below w.heap.size w v2) := box_step HO.out hb (Nat.le_refl _)
  clear hb
  rw [hj]
  go_upto_region 2 with fail
  have r_0 := B_r.out.cell (j := 0) rfl
  have r_1 := B_r.out.cell (j := 1) rfl
  have r_2 := B_r.out.cell (j := 2) rfl
  have r_3 := B_r.out.cell (j := 3) rfl
  have r_4 := B_r.out.cell (j := 4) rfl
  have r_f := B_r.out.frozen
  have r_z := B_r.out.lt
  go_wp2
  refine bodyPost_ret (v := .agg #[.int .i64 3, .int .i64 0, .int .i64 0, .int .i64 0, .int .i64 0]) (by simp [results, Try.results20, go_sem, r_0, r_1, r_2, r_3, r_4, r_f, r_z] <;> (repeat' (first | rfl | apply And.intro))) rfl ⟨rfl, ?_⟩
  exact (Below.setCell (Below.setCell (Below.setCell (Below.setCell (Below.setCell HO.out low_r.out _) low_r.out _) low_r.out _) low_r.out _) low_r.out _)
set_option maxRecDepth 20000 in
set_option maxHeartbeats 1600000 in
theorem iso_0 (l : Jn) (hj : jcode l.x l.y = 0) (w : World) : Calls Try.prog 20 #[.agg #[.int .i64 l.x.re, .int .i64 l.x.im, .int .i64 l.y.re, .int .i64 l.y.im]] w fun e w' => e = .returned (.agg #[.int .i64 0, .int .i64 (wrap64 (gsq l.x + gsq l.y)), .int .i64 (wrap64 (gsq l.x - gsq l.y)), .int .i64 (wrap64 (2 * gr l.x l.y)), .int .i64 (wrap64 (2 * gs l.x l.y))]) ∧ Below w.heap.size w w' := by
  go_enter Try.func20, Try.ntmps20
  have HO : Hid (Below w.heap.size w w) := Below.refl _ _
  go_upto_region 1 with fail
  obtain ⟨v1, hv⟩ : ∃ Xw, Xw = ((w.alloc (.cells #[.int .i64 l.x.re, .int .i64 l.x.im, .int .i64 l.y.re, .int .i64 l.y.im] 29)).alloc (.cells #[.int .i64 0, .int .i64 0, .int .i64 0, .int .i64 0, .int .i64 0] 38)) := ⟨_, rfl⟩
  rw [← hv]
  have ne_l_r : Hid (w.heap.size ≠ w.heap.size + 1) := by show (w.heap.size : Nat) ≠ w.heap.size + 1; omega
  have B_l : Hid (Blk v1 (w.heap.size) #[.int .i64 l.x.re, .int .i64 l.x.im, .int .i64 l.y.re, .int .i64 l.y.im] 29) := by show Blk v1 (w.heap.size) _ _; rw [hv]; exact (Blk.alloc (Blk.new (by simp)) _)
  have low_l : Hid (w.heap.size ≤ w.heap.size) := by show w.heap.size ≤ w.heap.size; have := HO.out.size; omega
  have B_r : Hid (Blk v1 (w.heap.size + 1) #[.int .i64 0, .int .i64 0, .int .i64 0, .int .i64 0, .int .i64 0] 38) := by show Blk v1 (w.heap.size + 1) _ _; rw [hv]; exact (Blk.new (by simp))
  have low_r : Hid (w.heap.size ≤ w.heap.size + 1) := by show w.heap.size ≤ w.heap.size + 1; have := HO.out.size; omega
  replace HO : Hid (Below w.heap.size w v1) := by show Below w.heap.size w v1; rw [hv]; exact (below_new (below_new HO.out _) _)
  clear hv
  have l_0 := B_l.out.cell (j := 0) rfl
  have l_1 := B_l.out.cell (j := 1) rfl
  have l_2 := B_l.out.cell (j := 2) rfl
  have l_3 := B_l.out.cell (j := 3) rfl
  have l_f := B_l.out.frozen
  have l_z := B_l.out.lt
  go_wp2_with fail
  refine (ijones l.x l.y _).mono ?_
  rintro e v2 ⟨rfl, hb⟩
  clear l_0 l_1 l_2 l_3 l_f l_z
  replace B_l : Hid (Blk v2 (w.heap.size) #[.int .i64 l.x.re, .int .i64 l.x.im, .int .i64 l.y.re, .int .i64 l.y.im] 29) := by show Blk v2 (w.heap.size) _ _; exact Blk.old B_l.out hb
  replace B_r : Hid (Blk v2 (w.heap.size + 1) #[.int .i64 0, .int .i64 0, .int .i64 0, .int .i64 0, .int .i64 0] 38) := by show Blk v2 (w.heap.size + 1) _ _; exact Blk.old B_r.out hb
  replace HO : Hid (Below w.heap.size w v2) := box_step HO.out hb (Nat.le_refl _)
  clear hb
  rw [hj]
  go_upto_region 2 with fail
  go_upto_region 4 with fail
  have k_l_0 : ∀ W, Below v2.heap.size v2 W → W.cell? ⟨w.heap.size, 0, none⟩ = some (.int .i64 l.x.re) := fun _ h => kold h (B_l.out.cell (j := 0) rfl)
  have k_l_1 : ∀ W, Below v2.heap.size v2 W → W.cell? ⟨w.heap.size, 1, none⟩ = some (.int .i64 l.x.im) := fun _ h => kold h (B_l.out.cell (j := 1) rfl)
  have k_l_2 : ∀ W, Below v2.heap.size v2 W → W.cell? ⟨w.heap.size, 2, none⟩ = some (.int .i64 l.y.re) := fun _ h => kold h (B_l.out.cell (j := 2) rfl)
  have k_l_3 : ∀ W, Below v2.heap.size v2 W → W.cell? ⟨w.heap.size, 3, none⟩ = some (.int .i64 l.y.im) := fun _ h => kold h (B_l.out.cell (j := 3) rfl)
  have hR0 : Below v2.heap.size v2 v2 := Below.refl _ _
  go_wp2_with fail
  go_region_held (fun W => Below v2.heap.size v2 W) (first | with_reducible assumption | with_reducible exact Below.drew ‹_› | with_reducible exact below_drewN ‹_› _)
    (first | (go_at_call 66; refine (isq _ _).mono ?_; rintro e u3 ⟨rfl, hb1⟩; have hR1 : Below v2.heap.size v2 u3 := box_step ‹_› hb1 (Nat.le_refl _)))
  clear k_l_0 k_l_1 k_l_2 k_l_3 hR0
  replace B_l : Hid (Blk u3 (w.heap.size) #[.int .i64 l.x.re, .int .i64 l.x.im, .int .i64 l.y.re, .int .i64 l.y.im] 29) := by show Blk u3 (w.heap.size) _ _; exact Blk.old B_l.out hR1
  replace B_r : Hid (Blk u3 (w.heap.size + 1) #[.int .i64 0, .int .i64 0, .int .i64 0, .int .i64 0, .int .i64 0] 38) := by show Blk u3 (w.heap.size + 1) _ _; exact Blk.old B_r.out hR1
  replace HO : Hid (Below w.heap.size w u3) := HO.out.trans (hR1.mono HO.out.size)
  replace low_r : Hid (w.heap.size ≤ w.heap.size + 1) := low_r.out
  replace low_l : Hid (w.heap.size ≤ w.heap.size) := low_l.out
  clear hR1
  have l_0 := B_l.out.cell (j := 0) rfl
  have l_1 := B_l.out.cell (j := 1) rfl
  have l_2 := B_l.out.cell (j := 2) rfl
  have l_3 := B_l.out.cell (j := 3) rfl
  have l_f := B_l.out.frozen
  have l_z := B_l.out.lt
  go_wp2_with fail
  refine (ibeat l.x l.y _).mono ?_
  rintro e v4 ⟨rfl, hb⟩
  clear l_0 l_1 l_2 l_3 l_f l_z
  replace B_l : Hid (Blk v4 (w.heap.size) #[.int .i64 l.x.re, .int .i64 l.x.im, .int .i64 l.y.re, .int .i64 l.y.im] 29) := by show Blk v4 (w.heap.size) _ _; exact Blk.old B_l.out hb
  replace B_r : Hid (Blk v4 (w.heap.size + 1) #[.int .i64 0, .int .i64 0, .int .i64 0, .int .i64 0, .int .i64 0] 38) := by show Blk v4 (w.heap.size + 1) _ _; exact Blk.old B_r.out hb
  replace HO : Hid (Below w.heap.size w v4) := box_step HO.out hb (Nat.le_refl _)
  clear hb
  have r_0 := B_r.out.cell (j := 0) rfl
  have r_1 := B_r.out.cell (j := 1) rfl
  have r_2 := B_r.out.cell (j := 2) rfl
  have r_3 := B_r.out.cell (j := 3) rfl
  have r_4 := B_r.out.cell (j := 4) rfl
  have r_f := B_r.out.frozen
  have r_z := B_r.out.lt
  go_wp2
  refine bodyPost_ret (v := .agg #[.int .i64 0, .int .i64 (wrap64 (gsq l.x + gsq l.y)), .int .i64 (wrap64 (gsq l.x - gsq l.y)), .int .i64 (wrap64 (2 * gr l.x l.y)), .int .i64 (wrap64 (2 * gs l.x l.y))]) (by simp [results, Try.results20, go_sem, r_0, r_1, r_2, r_3, r_4, r_f, r_z] <;> (repeat' (first | rfl | apply And.intro))) rfl ⟨rfl, ?_⟩
  exact (Below.setCell (Below.setCell (Below.setCell (Below.setCell (Below.setCell HO.out low_r.out _) low_r.out _) low_r.out _) low_r.out _) low_r.out _)
set_option maxRecDepth 20000 in
set_option maxHeartbeats 1600000 in
theorem sso_3 (l : Jn) (hj : jcode l.x l.y = 3) (w : World) : Calls Try.prog 21 #[.agg #[.int .i64 l.x.re, .int .i64 l.x.im, .int .i64 l.y.re, .int .i64 l.y.im]] w fun e w' => e = .returned (.agg #[.int .i64 3, .int .i64 0, .int .i64 0, .int .i64 0, .int .i64 0]) ∧ Below w.heap.size w w' := by
  go_enter Try.func21, Try.ntmps21
  have HO : Hid (Below w.heap.size w w) := Below.refl _ _
  go_upto_region 1 with fail
  obtain ⟨v1, hv⟩ : ∃ Xw, Xw = ((w.alloc (.cells #[.int .i64 l.x.re, .int .i64 l.x.im, .int .i64 l.y.re, .int .i64 l.y.im] 29)).alloc (.cells #[.int .i64 0, .int .i64 0, .int .i64 0, .int .i64 0, .int .i64 0] 38)) := ⟨_, rfl⟩
  rw [← hv]
  have ne_l_r : Hid (w.heap.size ≠ w.heap.size + 1) := by show (w.heap.size : Nat) ≠ w.heap.size + 1; omega
  have B_l : Hid (Blk v1 (w.heap.size) #[.int .i64 l.x.re, .int .i64 l.x.im, .int .i64 l.y.re, .int .i64 l.y.im] 29) := by show Blk v1 (w.heap.size) _ _; rw [hv]; exact (Blk.alloc (Blk.new (by simp)) _)
  have low_l : Hid (w.heap.size ≤ w.heap.size) := by show w.heap.size ≤ w.heap.size; have := HO.out.size; omega
  have B_r : Hid (Blk v1 (w.heap.size + 1) #[.int .i64 0, .int .i64 0, .int .i64 0, .int .i64 0, .int .i64 0] 38) := by show Blk v1 (w.heap.size + 1) _ _; rw [hv]; exact (Blk.new (by simp))
  have low_r : Hid (w.heap.size ≤ w.heap.size + 1) := by show w.heap.size ≤ w.heap.size + 1; have := HO.out.size; omega
  replace HO : Hid (Below w.heap.size w v1) := by show Below w.heap.size w v1; rw [hv]; exact (below_new (below_new HO.out _) _)
  clear hv
  have l_0 := B_l.out.cell (j := 0) rfl
  have l_1 := B_l.out.cell (j := 1) rfl
  have l_2 := B_l.out.cell (j := 2) rfl
  have l_3 := B_l.out.cell (j := 3) rfl
  have l_f := B_l.out.frozen
  have l_z := B_l.out.lt
  go_wp2_with fail
  refine (sjones l.x l.y _).mono ?_
  rintro e v2 ⟨rfl, hb⟩
  clear l_0 l_1 l_2 l_3 l_f l_z
  replace B_l : Hid (Blk v2 (w.heap.size) #[.int .i64 l.x.re, .int .i64 l.x.im, .int .i64 l.y.re, .int .i64 l.y.im] 29) := by show Blk v2 (w.heap.size) _ _; exact Blk.old B_l.out hb
  replace B_r : Hid (Blk v2 (w.heap.size + 1) #[.int .i64 0, .int .i64 0, .int .i64 0, .int .i64 0, .int .i64 0] 38) := by show Blk v2 (w.heap.size + 1) _ _; exact Blk.old B_r.out hb
  replace HO : Hid (Below w.heap.size w v2) := box_step HO.out hb (Nat.le_refl _)
  clear hb
  rw [hj]
  go_upto_region 2 with fail
  have r_0 := B_r.out.cell (j := 0) rfl
  have r_1 := B_r.out.cell (j := 1) rfl
  have r_2 := B_r.out.cell (j := 2) rfl
  have r_3 := B_r.out.cell (j := 3) rfl
  have r_4 := B_r.out.cell (j := 4) rfl
  have r_f := B_r.out.frozen
  have r_z := B_r.out.lt
  go_wp2
  refine bodyPost_ret (v := .agg #[.int .i64 3, .int .i64 0, .int .i64 0, .int .i64 0, .int .i64 0]) (by simp [results, Try.results21, go_sem, r_0, r_1, r_2, r_3, r_4, r_f, r_z] <;> (repeat' (first | rfl | apply And.intro))) rfl ⟨rfl, ?_⟩
  exact (Below.setCell (Below.setCell (Below.setCell (Below.setCell (Below.setCell HO.out low_r.out _) low_r.out _) low_r.out _) low_r.out _) low_r.out _)
set_option maxRecDepth 20000 in
set_option maxHeartbeats 1600000 in
theorem sso_0 (l : Jn) (hj : jcode l.x l.y = 0) (w : World) : Calls Try.prog 21 #[.agg #[.int .i64 l.x.re, .int .i64 l.x.im, .int .i64 l.y.re, .int .i64 l.y.im]] w fun e w' => e = .returned (.agg #[.int .i64 0, .int .i64 (wrap64 (gsq l.x + gsq l.y)), .int .i64 (wrap64 (gsq l.x - gsq l.y)), .int .i64 (wrap64 (2 * gr l.x l.y)), .int .i64 (wrap64 (2 * gs l.x l.y))]) ∧ Below w.heap.size w w' := by
  go_enter Try.func21, Try.ntmps21
  have HO : Hid (Below w.heap.size w w) := Below.refl _ _
  go_upto_region 1 with fail
  obtain ⟨v1, hv⟩ : ∃ Xw, Xw = ((w.alloc (.cells #[.int .i64 l.x.re, .int .i64 l.x.im, .int .i64 l.y.re, .int .i64 l.y.im] 29)).alloc (.cells #[.int .i64 0, .int .i64 0, .int .i64 0, .int .i64 0, .int .i64 0] 38)) := ⟨_, rfl⟩
  rw [← hv]
  have ne_l_r : Hid (w.heap.size ≠ w.heap.size + 1) := by show (w.heap.size : Nat) ≠ w.heap.size + 1; omega
  have B_l : Hid (Blk v1 (w.heap.size) #[.int .i64 l.x.re, .int .i64 l.x.im, .int .i64 l.y.re, .int .i64 l.y.im] 29) := by show Blk v1 (w.heap.size) _ _; rw [hv]; exact (Blk.alloc (Blk.new (by simp)) _)
  have low_l : Hid (w.heap.size ≤ w.heap.size) := by show w.heap.size ≤ w.heap.size; have := HO.out.size; omega
  have B_r : Hid (Blk v1 (w.heap.size + 1) #[.int .i64 0, .int .i64 0, .int .i64 0, .int .i64 0, .int .i64 0] 38) := by show Blk v1 (w.heap.size + 1) _ _; rw [hv]; exact (Blk.new (by simp))
  have low_r : Hid (w.heap.size ≤ w.heap.size + 1) := by show w.heap.size ≤ w.heap.size + 1; have := HO.out.size; omega
  replace HO : Hid (Below w.heap.size w v1) := by show Below w.heap.size w v1; rw [hv]; exact (below_new (below_new HO.out _) _)
  clear hv
  have l_0 := B_l.out.cell (j := 0) rfl
  have l_1 := B_l.out.cell (j := 1) rfl
  have l_2 := B_l.out.cell (j := 2) rfl
  have l_3 := B_l.out.cell (j := 3) rfl
  have l_f := B_l.out.frozen
  have l_z := B_l.out.lt
  go_wp2_with fail
  refine (sjones l.x l.y _).mono ?_
  rintro e v2 ⟨rfl, hb⟩
  clear l_0 l_1 l_2 l_3 l_f l_z
  replace B_l : Hid (Blk v2 (w.heap.size) #[.int .i64 l.x.re, .int .i64 l.x.im, .int .i64 l.y.re, .int .i64 l.y.im] 29) := by show Blk v2 (w.heap.size) _ _; exact Blk.old B_l.out hb
  replace B_r : Hid (Blk v2 (w.heap.size + 1) #[.int .i64 0, .int .i64 0, .int .i64 0, .int .i64 0, .int .i64 0] 38) := by show Blk v2 (w.heap.size + 1) _ _; exact Blk.old B_r.out hb
  replace HO : Hid (Below w.heap.size w v2) := box_step HO.out hb (Nat.le_refl _)
  clear hb
  rw [hj]
  go_upto_region 2 with fail
  go_upto_region 4 with fail
  have l_0 := B_l.out.cell (j := 0) rfl
  have l_1 := B_l.out.cell (j := 1) rfl
  have l_2 := B_l.out.cell (j := 2) rfl
  have l_3 := B_l.out.cell (j := 3) rfl
  have l_f := B_l.out.frozen
  have l_z := B_l.out.lt
  go_wp2_with fail
  refine (ssq l.x _).mono ?_
  rintro e v3 ⟨rfl, hb⟩
  clear l_0 l_1 l_2 l_3 l_f l_z
  replace B_l : Hid (Blk v3 (w.heap.size) #[.int .i64 l.x.re, .int .i64 l.x.im, .int .i64 l.y.re, .int .i64 l.y.im] 29) := by show Blk v3 (w.heap.size) _ _; exact Blk.old B_l.out hb
  replace B_r : Hid (Blk v3 (w.heap.size + 1) #[.int .i64 0, .int .i64 0, .int .i64 0, .int .i64 0, .int .i64 0] 38) := by show Blk v3 (w.heap.size + 1) _ _; exact Blk.old B_r.out hb
  replace HO : Hid (Below w.heap.size w v3) := box_step HO.out hb (Nat.le_refl _)
  clear hb
  have l_0 := B_l.out.cell (j := 0) rfl
  have l_1 := B_l.out.cell (j := 1) rfl
  have l_2 := B_l.out.cell (j := 2) rfl
  have l_3 := B_l.out.cell (j := 3) rfl
  have l_f := B_l.out.frozen
  have l_z := B_l.out.lt
  go_wp2_with fail
  refine (ssq l.y _).mono ?_
  rintro e v4 ⟨rfl, hb⟩
  clear l_0 l_1 l_2 l_3 l_f l_z
  replace B_l : Hid (Blk v4 (w.heap.size) #[.int .i64 l.x.re, .int .i64 l.x.im, .int .i64 l.y.re, .int .i64 l.y.im] 29) := by show Blk v4 (w.heap.size) _ _; exact Blk.old B_l.out hb
  replace B_r : Hid (Blk v4 (w.heap.size + 1) #[.int .i64 0, .int .i64 0, .int .i64 0, .int .i64 0, .int .i64 0] 38) := by show Blk v4 (w.heap.size + 1) _ _; exact Blk.old B_r.out hb
  replace HO : Hid (Below w.heap.size w v4) := box_step HO.out hb (Nat.le_refl _)
  clear hb
  go_upto_region 6 with fail
  have q_l : w.heap.size ≠ w.heap.size + 1 := ne_l_r.out
  have k_l_0 : ∀ W, Bt (w.heap.size + 1) 5 38 v4 W → W.cell? ⟨w.heap.size, 0, none⟩ = some (.int .i64 l.x.re) := fun _ h => (h.old B_l.out q_l).cell (j := 0) rfl
  have k_l_1 : ∀ W, Bt (w.heap.size + 1) 5 38 v4 W → W.cell? ⟨w.heap.size, 1, none⟩ = some (.int .i64 l.x.im) := fun _ h => (h.old B_l.out q_l).cell (j := 1) rfl
  have k_l_2 : ∀ W, Bt (w.heap.size + 1) 5 38 v4 W → W.cell? ⟨w.heap.size, 2, none⟩ = some (.int .i64 l.y.re) := fun _ h => (h.old B_l.out q_l).cell (j := 2) rfl
  have k_l_3 : ∀ W, Bt (w.heap.size + 1) 5 38 v4 W → W.cell? ⟨w.heap.size, 3, none⟩ = some (.int .i64 l.y.im) := fun _ h => (h.old B_l.out q_l).cell (j := 3) rfl
  have g0 : ∀ W, Bt (w.heap.size + 1) 5 38 v4 W → W.cell? ⟨w.heap.size + 1, 0, none⟩ = some (got W (w.heap.size + 1) 0) := fun _ h => h.cell (by omega)
  have g1 : ∀ W, Bt (w.heap.size + 1) 5 38 v4 W → W.cell? ⟨w.heap.size + 1, 1, none⟩ = some (got W (w.heap.size + 1) 1) := fun _ h => h.cell (by omega)
  have g2 : ∀ W, Bt (w.heap.size + 1) 5 38 v4 W → W.cell? ⟨w.heap.size + 1, 2, none⟩ = some (got W (w.heap.size + 1) 2) := fun _ h => h.cell (by omega)
  have g3 : ∀ W, Bt (w.heap.size + 1) 5 38 v4 W → W.cell? ⟨w.heap.size + 1, 3, none⟩ = some (got W (w.heap.size + 1) 3) := fun _ h => h.cell (by omega)
  have g4 : ∀ W, Bt (w.heap.size + 1) 5 38 v4 W → W.cell? ⟨w.heap.size + 1, 4, none⟩ = some (got W (w.heap.size + 1) 4) := fun _ h => h.cell (by omega)
  have gf : ∀ W q, Bt (w.heap.size + 1) 5 38 v4 W → W.frozen? ⟨w.heap.size + 1, q, none⟩ = false := fun _ q h => h.frozen q
  have h0 : Bt (w.heap.size + 1) 5 38 v4 v4 := Bt.start B_r.out
  go_wp2_with fail
  go_region_held (fun W => Bt (w.heap.size + 1) 5 38 v4 W) (first | with_reducible assumption | with_reducible exact Bt.drew ‹_› | with_reducible exact Bt.drewN ‹_› _ | with_reducible exact Bt.set (Bt.set (Bt.set (Bt.set (Bt.set ‹_› _ _) _ _) _ _) _ _) _ _)
    (first | (go_at_call 69; refine (sr _ _ _).mono ?_; rintro e u5 ⟨rfl, hb1⟩; have hR1 := Bt.call ‹_› hb1) | (go_at_call 70; refine (ss _ _ _).mono ?_; rintro e u5 ⟨rfl, hb1⟩; have hR1 := Bt.call ‹_› hb1))
  have c0 := g0 _ hR1
  have c1 := g1 _ hR1
  have c2 := g2 _ hR1
  have c3 := g3 _ hR1
  have c4 := g4 _ hR1
  clear k_l_0 k_l_1 k_l_2 k_l_3 g0 g1 g2 g3 g4 gf
  go_wp2
  refine bodyPost_ret (v := .agg #[.int .i64 0, .int .i64 (wrap64 (gsq l.x + gsq l.y)), .int .i64 (wrap64 (gsq l.x - gsq l.y)), .int .i64 (wrap64 (2 * gr l.x l.y)), .int .i64 (wrap64 (2 * gs l.x l.y))]) (by simp [results, Try.results21, go_sem, c0, c1, c2, c3, c4, wi64] <;> (repeat' (first | rfl | apply And.intro))) rfl ⟨rfl, ?_⟩
  exact ((Bt.set (Bt.set (Bt.set (Bt.set (Bt.set hR1 _ _) _ _) _ _) _ _) _ _)).out HO.out low_r.out
theorem iso (l : Jn) (w : World) : Calls Try.prog 20 #[.agg #[.int .i64 l.x.re, .int .i64 l.x.im, .int .i64 l.y.re, .int .i64 l.y.im]] w fun e w' => e = .returned (.agg #[.int .i64 (jcode l.x l.y), .int .i64 ((stk l).i), .int .i64 ((stk l).q), .int .i64 ((stk l).u), .int .i64 ((stk l).v)]) ∧ Below w.heap.size w w' := by
  rcases jc_or l.x l.y with h | h
  · rw [show stk l = sok l by simp [stk, h], h]; exact iso_0 l h w
  · rw [show stk l = ⟨0, 0, 0, 0⟩ by simp [stk, h], h]; exact iso_3 l h w
theorem sso (l : Jn) (w : World) : Calls Try.prog 21 #[.agg #[.int .i64 l.x.re, .int .i64 l.x.im, .int .i64 l.y.re, .int .i64 l.y.im]] w fun e w' => e = .returned (.agg #[.int .i64 (jcode l.x l.y), .int .i64 ((stk l).i), .int .i64 ((stk l).q), .int .i64 ((stk l).u), .int .i64 ((stk l).v)]) ∧ Below w.heap.size w w' := by
  rcases jc_or l.x l.y with h | h
  · rw [show stk l = sok l by simp [stk, h], h]; exact sso_0 l h w
  · rw [show stk l = ⟨0, 0, 0, 0⟩ by simp [stk, h], h]; exact sso_3 l h w
end Go.Proofs.Ytloebnlmeplgbaa
