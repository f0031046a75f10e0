/- Light behind a plate: both packages, one plain answer; the specification's products. -/
import Derived.Test.YtloebnlmeplgbaaSf
import Derived.Test.YtloebnlmeplgbaaPs
import Derived.Handy
namespace Go.Proofs.Ytloebnlmeplgbaa
open Go.RowKit
set_option linter.unusedVariables false
set_option linter.unusedSimpArgs false
def rcode (p : Pl) (l : Jn) : Int := if pcode p.a p.b p.c p.d = 0 ∧ jcode l.x l.y = 0 ∧ jcode (pass p l).x (pass p l).y = 0 then 0 else 3
def rjon (p : Pl) (l : Jn) : Jn := if pcode p.a p.b p.c p.d = 0 ∧ jcode l.x l.y = 0 ∧ jcode (pass p l).x (pass p l).y = 0 then pass p l else ⟨⟨0, 0⟩, ⟨0, 0⟩⟩
theorem jcode_or (a b : Gz) : jcode a b = 0 ∨ jcode a b = 3 := by unfold jcode; split <;> simp
theorem pcode_or (a b c d : Gz) : pcode a b c d = 0 ∨ pcode a b c d = 3 := by unfold pcode; split <;> simp
set_option maxRecDepth 20000 in
set_option maxHeartbeats 1600000 in
theorem stwo (a b c d : Gz) (w : World) : Calls Try.prog 64 #[.agg #[.int .i64 a.re, .int .i64 a.im], .agg #[.int .i64 b.re, .int .i64 b.im], .agg #[.int .i64 c.re, .int .i64 c.im], .agg #[.int .i64 d.re, .int .i64 d.im]] w fun e w' => e = .returned (.agg #[.int .i64 ((two a b c d).re), .int .i64 ((two a b c d).im)]) ∧ Below w.heap.size w w' := by
  go_enter Try.func64, Try.ntmps64
  have HO : Hid (Below w.heap.size w w) := Below.refl _ _
  go_upto_region 1 with fail
  obtain ⟨v1, hv⟩ : ∃ Xw, Xw = (((((w.alloc (.cells #[.int .i64 a.re, .int .i64 a.im] 25)).alloc (.cells #[.int .i64 b.re, .int .i64 b.im] 25)).alloc (.cells #[.int .i64 c.re, .int .i64 c.im] 25)).alloc (.cells #[.int .i64 d.re, .int .i64 d.im] 25)).alloc (.cells #[.int .i64 0, .int .i64 0] 25)) := ⟨_, rfl⟩
  rw [← hv]
  have ne_a_b : Hid (w.heap.size ≠ w.heap.size + 1) := by show (w.heap.size : Nat) ≠ w.heap.size + 1; omega
  have ne_a_c : Hid (w.heap.size ≠ w.heap.size + 1 + 1) := by show (w.heap.size : Nat) ≠ w.heap.size + 1 + 1; omega
  have ne_b_c : Hid (w.heap.size + 1 ≠ w.heap.size + 1 + 1) := by show (w.heap.size + 1 : Nat) ≠ w.heap.size + 1 + 1; omega
  have ne_a_d : Hid (w.heap.size ≠ w.heap.size + 1 + 1 + 1) := by show (w.heap.size : Nat) ≠ w.heap.size + 1 + 1 + 1; omega
  have ne_b_d : Hid (w.heap.size + 1 ≠ w.heap.size + 1 + 1 + 1) := by show (w.heap.size + 1 : Nat) ≠ w.heap.size + 1 + 1 + 1; omega
  have ne_c_d : Hid (w.heap.size + 1 + 1 ≠ w.heap.size + 1 + 1 + 1) := by show (w.heap.size + 1 + 1 : Nat) ≠ w.heap.size + 1 + 1 + 1; omega
  have ne_a_r : Hid (w.heap.size ≠ w.heap.size + 1 + 1 + 1 + 1) := by show (w.heap.size : Nat) ≠ w.heap.size + 1 + 1 + 1 + 1; omega
  have ne_b_r : Hid (w.heap.size + 1 ≠ w.heap.size + 1 + 1 + 1 + 1) := by show (w.heap.size + 1 : Nat) ≠ w.heap.size + 1 + 1 + 1 + 1; omega
  have ne_c_r : Hid (w.heap.size + 1 + 1 ≠ w.heap.size + 1 + 1 + 1 + 1) := by show (w.heap.size + 1 + 1 : Nat) ≠ w.heap.size + 1 + 1 + 1 + 1; omega
  have ne_d_r : Hid (w.heap.size + 1 + 1 + 1 ≠ w.heap.size + 1 + 1 + 1 + 1) := by show (w.heap.size + 1 + 1 + 1 : Nat) ≠ w.heap.size + 1 + 1 + 1 + 1; omega
  have B_a : Hid (Blk v1 (w.heap.size) #[.int .i64 a.re, .int .i64 a.im] 25) := by show Blk v1 (w.heap.size) _ _; rw [hv]; exact (Blk.alloc (Blk.alloc (Blk.alloc (Blk.alloc (Blk.new (by simp)) _) _) _) _)
  have low_a : Hid (w.heap.size ≤ w.heap.size) := by show w.heap.size ≤ w.heap.size; have := HO.out.size; omega
  have B_b : Hid (Blk v1 (w.heap.size + 1) #[.int .i64 b.re, .int .i64 b.im] 25) := by show Blk v1 (w.heap.size + 1) _ _; rw [hv]; exact (Blk.alloc (Blk.alloc (Blk.alloc (Blk.new (by simp)) _) _) _)
  have low_b : Hid (w.heap.size ≤ w.heap.size + 1) := by show w.heap.size ≤ w.heap.size + 1; have := HO.out.size; omega
  have B_c : Hid (Blk v1 (w.heap.size + 1 + 1) #[.int .i64 c.re, .int .i64 c.im] 25) := by show Blk v1 (w.heap.size + 1 + 1) _ _; rw [hv]; exact (Blk.alloc (Blk.alloc (Blk.new (by simp)) _) _)
  have low_c : Hid (w.heap.size ≤ w.heap.size + 1 + 1) := by show w.heap.size ≤ w.heap.size + 1 + 1; have := HO.out.size; omega
  have B_d : Hid (Blk v1 (w.heap.size + 1 + 1 + 1) #[.int .i64 d.re, .int .i64 d.im] 25) := by show Blk v1 (w.heap.size + 1 + 1 + 1) _ _; rw [hv]; exact (Blk.alloc (Blk.new (by simp)) _)
  have low_d : Hid (w.heap.size ≤ w.heap.size + 1 + 1 + 1) := by show w.heap.size ≤ w.heap.size + 1 + 1 + 1; have := HO.out.size; omega
  have B_r : Hid (Blk v1 (w.heap.size + 1 + 1 + 1 + 1) #[.int .i64 0, .int .i64 0] 25) := by show Blk v1 (w.heap.size + 1 + 1 + 1 + 1) _ _; rw [hv]; exact (Blk.new (by simp))
  have low_r : Hid (w.heap.size ≤ w.heap.size + 1 + 1 + 1 + 1) := by show w.heap.size ≤ w.heap.size + 1 + 1 + 1 + 1; have := HO.out.size; omega
  replace HO : Hid (Below w.heap.size w v1) := by show Below w.heap.size w v1; rw [hv]; exact (below_new (below_new (below_new (below_new (below_new HO.out _) _) _) _) _)
  clear hv
  have a_0 := B_a.out.cell (j := 0) rfl
  have a_1 := B_a.out.cell (j := 1) rfl
  have a_f := B_a.out.frozen
  have a_z := B_a.out.lt
  have b_0 := B_b.out.cell (j := 0) rfl
  have b_1 := B_b.out.cell (j := 1) rfl
  have b_f := B_b.out.frozen
  have b_z := B_b.out.lt
  go_wp2_with fail
  refine (smul a b _).mono ?_
  rintro e v2 ⟨rfl, hb⟩
  clear a_0 a_1 a_f a_z b_0 b_1 b_f b_z
  replace B_a : Hid (Blk v2 (w.heap.size) #[.int .i64 a.re, .int .i64 a.im] 25) := by show Blk v2 (w.heap.size) _ _; exact Blk.old B_a.out hb
  replace B_b : Hid (Blk v2 (w.heap.size + 1) #[.int .i64 b.re, .int .i64 b.im] 25) := by show Blk v2 (w.heap.size + 1) _ _; exact Blk.old B_b.out hb
  replace B_c : Hid (Blk v2 (w.heap.size + 1 + 1) #[.int .i64 c.re, .int .i64 c.im] 25) := by show Blk v2 (w.heap.size + 1 + 1) _ _; exact Blk.old B_c.out hb
  replace B_d : Hid (Blk v2 (w.heap.size + 1 + 1 + 1) #[.int .i64 d.re, .int .i64 d.im] 25) := by show Blk v2 (w.heap.size + 1 + 1 + 1) _ _; exact Blk.old B_d.out hb
  replace B_r : Hid (Blk v2 (w.heap.size + 1 + 1 + 1 + 1) #[.int .i64 0, .int .i64 0] 25) := by show Blk v2 (w.heap.size + 1 + 1 + 1 + 1) _ _; exact Blk.old B_r.out hb
  replace HO : Hid (Below w.heap.size w v2) := box_step HO.out hb (Nat.le_refl _)
  clear hb
  go_upto_region 2 with fail
  obtain ⟨v3, hv⟩ : ∃ Xw, Xw = (v2.alloc (.cells #[.int .i64 ((gmul a b).re), .int .i64 ((gmul a b).im)] 25)) := ⟨_, rfl⟩
  rw [← hv]
  have ne_a_p : Hid (w.heap.size ≠ v2.heap.size) := Nat.ne_of_lt (Nat.lt_of_lt_of_le B_a.out.lt (by omega))
  have ne_b_p : Hid (w.heap.size + 1 ≠ v2.heap.size) := Nat.ne_of_lt (Nat.lt_of_lt_of_le B_b.out.lt (by omega))
  have ne_c_p : Hid (w.heap.size + 1 + 1 ≠ v2.heap.size) := Nat.ne_of_lt (Nat.lt_of_lt_of_le B_c.out.lt (by omega))
  have ne_d_p : Hid (w.heap.size + 1 + 1 + 1 ≠ v2.heap.size) := Nat.ne_of_lt (Nat.lt_of_lt_of_le B_d.out.lt (by omega))
  have ne_r_p : Hid (w.heap.size + 1 + 1 + 1 + 1 ≠ v2.heap.size) := Nat.ne_of_lt (Nat.lt_of_lt_of_le B_r.out.lt (by omega))
  have B_p : Hid (Blk v3 (v2.heap.size) #[.int .i64 ((gmul a b).re), .int .i64 ((gmul a b).im)] 25) := by show Blk v3 (v2.heap.size) _ _; rw [hv]; exact (Blk.new (by simp))
  have low_p : Hid (w.heap.size ≤ v2.heap.size) := by show w.heap.size ≤ v2.heap.size; have := HO.out.size; omega
  replace B_a : Hid (Blk v3 (w.heap.size) #[.int .i64 a.re, .int .i64 a.im] 25) := by show Blk v3 (w.heap.size) _ _; rw [hv]; exact (Blk.alloc B_a.out _)
  replace B_b : Hid (Blk v3 (w.heap.size + 1) #[.int .i64 b.re, .int .i64 b.im] 25) := by show Blk v3 (w.heap.size + 1) _ _; rw [hv]; exact (Blk.alloc B_b.out _)
  replace B_c : Hid (Blk v3 (w.heap.size + 1 + 1) #[.int .i64 c.re, .int .i64 c.im] 25) := by show Blk v3 (w.heap.size + 1 + 1) _ _; rw [hv]; exact (Blk.alloc B_c.out _)
  replace B_d : Hid (Blk v3 (w.heap.size + 1 + 1 + 1) #[.int .i64 d.re, .int .i64 d.im] 25) := by show Blk v3 (w.heap.size + 1 + 1 + 1) _ _; rw [hv]; exact (Blk.alloc B_d.out _)
  replace B_r : Hid (Blk v3 (w.heap.size + 1 + 1 + 1 + 1) #[.int .i64 0, .int .i64 0] 25) := by show Blk v3 (w.heap.size + 1 + 1 + 1 + 1) _ _; rw [hv]; exact (Blk.alloc B_r.out _)
  replace HO : Hid (Below w.heap.size w v3) := by show Below w.heap.size w v3; rw [hv]; exact (below_new HO.out _)
  clear hv
  have c_0 := B_c.out.cell (j := 0) rfl
  have c_1 := B_c.out.cell (j := 1) rfl
  have c_f := B_c.out.frozen
  have c_z := B_c.out.lt
  have d_0 := B_d.out.cell (j := 0) rfl
  have d_1 := B_d.out.cell (j := 1) rfl
  have d_f := B_d.out.frozen
  have d_z := B_d.out.lt
  go_wp2_with fail
  refine (smul c d _).mono ?_
  rintro e v4 ⟨rfl, hb⟩
  clear c_0 c_1 c_f c_z d_0 d_1 d_f d_z
  replace B_a : Hid (Blk v4 (w.heap.size) #[.int .i64 a.re, .int .i64 a.im] 25) := by show Blk v4 (w.heap.size) _ _; exact Blk.old B_a.out hb
  replace B_b : Hid (Blk v4 (w.heap.size + 1) #[.int .i64 b.re, .int .i64 b.im] 25) := by show Blk v4 (w.heap.size + 1) _ _; exact Blk.old B_b.out hb
  replace B_c : Hid (Blk v4 (w.heap.size + 1 + 1) #[.int .i64 c.re, .int .i64 c.im] 25) := by show Blk v4 (w.heap.size + 1 + 1) _ _; exact Blk.old B_c.out hb
  replace B_d : Hid (Blk v4 (w.heap.size + 1 + 1 + 1) #[.int .i64 d.re, .int .i64 d.im] 25) := by show Blk v4 (w.heap.size + 1 + 1 + 1) _ _; exact Blk.old B_d.out hb
  replace B_r : Hid (Blk v4 (w.heap.size + 1 + 1 + 1 + 1) #[.int .i64 0, .int .i64 0] 25) := by show Blk v4 (w.heap.size + 1 + 1 + 1 + 1) _ _; exact Blk.old B_r.out hb
  replace B_p : Hid (Blk v4 (v2.heap.size) #[.int .i64 ((gmul a b).re), .int .i64 ((gmul a b).im)] 25) := by show Blk v4 (v2.heap.size) _ _; exact Blk.old B_p.out hb
  replace HO : Hid (Below w.heap.size w v4) := box_step HO.out hb (Nat.le_refl _)
  clear hb
  go_upto_region 3 with fail
  obtain ⟨v5, hv⟩ : ∃ Xw, Xw = (v4.alloc (.cells #[.int .i64 ((gmul c d).re), .int .i64 ((gmul c d).im)] 25)) := ⟨_, rfl⟩
  rw [← hv]
  have ne_a_q : Hid (w.heap.size ≠ v4.heap.size) := Nat.ne_of_lt (Nat.lt_of_lt_of_le B_a.out.lt (by omega))
  have ne_b_q : Hid (w.heap.size + 1 ≠ v4.heap.size) := Nat.ne_of_lt (Nat.lt_of_lt_of_le B_b.out.lt (by omega))
  have ne_c_q : Hid (w.heap.size + 1 + 1 ≠ v4.heap.size) := Nat.ne_of_lt (Nat.lt_of_lt_of_le B_c.out.lt (by omega))
  have ne_d_q : Hid (w.heap.size + 1 + 1 + 1 ≠ v4.heap.size) := Nat.ne_of_lt (Nat.lt_of_lt_of_le B_d.out.lt (by omega))
  have ne_r_q : Hid (w.heap.size + 1 + 1 + 1 + 1 ≠ v4.heap.size) := Nat.ne_of_lt (Nat.lt_of_lt_of_le B_r.out.lt (by omega))
  have ne_p_q : Hid (v2.heap.size ≠ v4.heap.size) := Nat.ne_of_lt (Nat.lt_of_lt_of_le B_p.out.lt (by omega))
  have B_q : Hid (Blk v5 (v4.heap.size) #[.int .i64 ((gmul c d).re), .int .i64 ((gmul c d).im)] 25) := by show Blk v5 (v4.heap.size) _ _; rw [hv]; exact (Blk.new (by simp))
  have low_q : Hid (w.heap.size ≤ v4.heap.size) := by show w.heap.size ≤ v4.heap.size; have := HO.out.size; omega
  replace B_a : Hid (Blk v5 (w.heap.size) #[.int .i64 a.re, .int .i64 a.im] 25) := by show Blk v5 (w.heap.size) _ _; rw [hv]; exact (Blk.alloc B_a.out _)
  replace B_b : Hid (Blk v5 (w.heap.size + 1) #[.int .i64 b.re, .int .i64 b.im] 25) := by show Blk v5 (w.heap.size + 1) _ _; rw [hv]; exact (Blk.alloc B_b.out _)
  replace B_c : Hid (Blk v5 (w.heap.size + 1 + 1) #[.int .i64 c.re, .int .i64 c.im] 25) := by show Blk v5 (w.heap.size + 1 + 1) _ _; rw [hv]; exact (Blk.alloc B_c.out _)
  replace B_d : Hid (Blk v5 (w.heap.size + 1 + 1 + 1) #[.int .i64 d.re, .int .i64 d.im] 25) := by show Blk v5 (w.heap.size + 1 + 1 + 1) _ _; rw [hv]; exact (Blk.alloc B_d.out _)
  replace B_r : Hid (Blk v5 (w.heap.size + 1 + 1 + 1 + 1) #[.int .i64 0, .int .i64 0] 25) := by show Blk v5 (w.heap.size + 1 + 1 + 1 + 1) _ _; rw [hv]; exact (Blk.alloc B_r.out _)
  replace B_p : Hid (Blk v5 (v2.heap.size) #[.int .i64 ((gmul a b).re), .int .i64 ((gmul a b).im)] 25) := by show Blk v5 (v2.heap.size) _ _; rw [hv]; exact (Blk.alloc B_p.out _)
  replace HO : Hid (Below w.heap.size w v5) := by show Below w.heap.size w v5; rw [hv]; exact (below_new HO.out _)
  clear hv
  have p_0 := B_p.out.cell (j := 0) rfl
  have p_1 := B_p.out.cell (j := 1) rfl
  have p_f := B_p.out.frozen
  have p_z := B_p.out.lt
  have q_0 := B_q.out.cell (j := 0) rfl
  have q_1 := B_q.out.cell (j := 1) rfl
  have q_f := B_q.out.frozen
  have q_z := B_q.out.lt
  have r_0 := B_r.out.cell (j := 0) rfl
  have r_1 := B_r.out.cell (j := 1) rfl
  have r_f := B_r.out.frozen
  have r_z := B_r.out.lt
  go_wp2
  refine bodyPost_ret (v := .agg #[.int .i64 ((two a b c d).re), .int .i64 ((two a b c d).im)]) (by simp [results, Try.results64, go_sem, two, gadd, p_0, p_1, p_f, p_z, q_0, q_1, q_f, q_z, r_0, r_1, r_f, r_z] <;> (repeat' (first | rfl | apply And.intro))) rfl ⟨rfl, ?_⟩
  exact (Below.setCell (Below.setCell HO.out low_r.out _) low_r.out _)
set_option maxRecDepth 20000 in
set_option maxHeartbeats 1600000 in
theorem ipj_1 (p : Pl) (l : Jn) (hp : pcode p.a p.b p.c p.d = 3) (w : World) : Calls Try.prog 19 #[.agg #[.int .i64 p.a.re, .int .i64 p.a.im, .int .i64 p.b.re, .int .i64 p.b.im, .int .i64 p.c.re, .int .i64 p.c.im, .int .i64 p.d.re, .int .i64 p.d.im], .agg #[.int .i64 l.x.re, .int .i64 l.x.im, .int .i64 l.y.re, .int .i64 l.y.im]] w fun e w' => e = .returned (.agg #[.int .i64 3, .int .i64 0, .int .i64 0, .int .i64 0, .int .i64 0]) ∧ Below w.heap.size w w' := by
  go_enter Try.func19, Try.ntmps19
  have HO : Hid (Below w.heap.size w w) := Below.refl _ _
  go_upto_region 1 with fail
  obtain ⟨v1, hv⟩ : ∃ Xw, Xw = (((w.alloc (.cells #[.int .i64 p.a.re, .int .i64 p.a.im, .int .i64 p.b.re, .int .i64 p.b.im, .int .i64 p.c.re, .int .i64 p.c.im, .int .i64 p.d.re, .int .i64 p.d.im] 27)).alloc (.cells #[.int .i64 l.x.re, .int .i64 l.x.im, .int .i64 l.y.re, .int .i64 l.y.im] 29)).alloc (.cells #[.int .i64 0, .int .i64 0, .int .i64 0, .int .i64 0, .int .i64 0] 33)) := ⟨_, rfl⟩
  rw [← hv]
  have ne_p_l : Hid (w.heap.size ≠ w.heap.size + 1) := by show (w.heap.size : Nat) ≠ w.heap.size + 1; omega
  have ne_p_r : Hid (w.heap.size ≠ w.heap.size + 1 + 1) := by show (w.heap.size : Nat) ≠ w.heap.size + 1 + 1; omega
  have ne_l_r : Hid (w.heap.size + 1 ≠ w.heap.size + 1 + 1) := by show (w.heap.size + 1 : Nat) ≠ w.heap.size + 1 + 1; omega
  have B_p : Hid (Blk v1 (w.heap.size) #[.int .i64 p.a.re, .int .i64 p.a.im, .int .i64 p.b.re, .int .i64 p.b.im, .int .i64 p.c.re, .int .i64 p.c.im, .int .i64 p.d.re, .int .i64 p.d.im] 27) := by show Blk v1 (w.heap.size) _ _; rw [hv]; exact (Blk.alloc (Blk.alloc (Blk.new (by simp)) _) _)
  have low_p : Hid (w.heap.size ≤ w.heap.size) := by show w.heap.size ≤ w.heap.size; have := HO.out.size; omega
  have B_l : Hid (Blk v1 (w.heap.size + 1) #[.int .i64 l.x.re, .int .i64 l.x.im, .int .i64 l.y.re, .int .i64 l.y.im] 29) := by show Blk v1 (w.heap.size + 1) _ _; rw [hv]; exact (Blk.alloc (Blk.new (by simp)) _)
  have low_l : Hid (w.heap.size ≤ w.heap.size + 1) := by show w.heap.size ≤ w.heap.size + 1; have := HO.out.size; omega
  have B_r : Hid (Blk v1 (w.heap.size + 1 + 1) #[.int .i64 0, .int .i64 0, .int .i64 0, .int .i64 0, .int .i64 0] 33) := by show Blk v1 (w.heap.size + 1 + 1) _ _; rw [hv]; exact (Blk.new (by simp))
  have low_r : Hid (w.heap.size ≤ w.heap.size + 1 + 1) := by show w.heap.size ≤ w.heap.size + 1 + 1; have := HO.out.size; omega
  replace HO : Hid (Below w.heap.size w v1) := by show Below w.heap.size w v1; rw [hv]; exact (below_new (below_new (below_new HO.out _) _) _)
  clear hv
  have p_0 := B_p.out.cell (j := 0) rfl
  have p_1 := B_p.out.cell (j := 1) rfl
  have p_2 := B_p.out.cell (j := 2) rfl
  have p_3 := B_p.out.cell (j := 3) rfl
  have p_4 := B_p.out.cell (j := 4) rfl
  have p_5 := B_p.out.cell (j := 5) rfl
  have p_6 := B_p.out.cell (j := 6) rfl
  have p_7 := B_p.out.cell (j := 7) rfl
  have p_f := B_p.out.frozen
  have p_z := B_p.out.lt
  go_wp2_with fail
  refine (iplate p.a p.b p.c p.d _).mono ?_
  rintro e v2 ⟨rfl, hb⟩
  clear p_0 p_1 p_2 p_3 p_4 p_5 p_6 p_7 p_f p_z
  replace B_p : Hid (Blk v2 (w.heap.size) #[.int .i64 p.a.re, .int .i64 p.a.im, .int .i64 p.b.re, .int .i64 p.b.im, .int .i64 p.c.re, .int .i64 p.c.im, .int .i64 p.d.re, .int .i64 p.d.im] 27) := by show Blk v2 (w.heap.size) _ _; exact Blk.old B_p.out hb
  replace B_l : Hid (Blk v2 (w.heap.size + 1) #[.int .i64 l.x.re, .int .i64 l.x.im, .int .i64 l.y.re, .int .i64 l.y.im] 29) := by show Blk v2 (w.heap.size + 1) _ _; exact Blk.old B_l.out hb
  replace B_r : Hid (Blk v2 (w.heap.size + 1 + 1) #[.int .i64 0, .int .i64 0, .int .i64 0, .int .i64 0, .int .i64 0] 33) := by show Blk v2 (w.heap.size + 1 + 1) _ _; exact Blk.old B_r.out hb
  replace HO : Hid (Below w.heap.size w v2) := box_step HO.out hb (Nat.le_refl _)
  clear hb
  rw [hp]
  go_upto_region 2 with fail
  have r_0 := B_r.out.cell (j := 0) rfl
  have r_1 := B_r.out.cell (j := 1) rfl
  have r_2 := B_r.out.cell (j := 2) rfl
  have r_3 := B_r.out.cell (j := 3) rfl
  have r_4 := B_r.out.cell (j := 4) rfl
  have r_f := B_r.out.frozen
  have r_z := B_r.out.lt
  go_wp2
  refine bodyPost_ret (v := .agg #[.int .i64 3, .int .i64 0, .int .i64 0, .int .i64 0, .int .i64 0]) (by simp [results, Try.results19, go_sem, r_0, r_1, r_2, r_3, r_4, r_f, r_z] <;> (repeat' (first | rfl | apply And.intro))) rfl ⟨rfl, ?_⟩
  exact (Below.setCell (Below.setCell (Below.setCell (Below.setCell (Below.setCell HO.out low_r.out _) low_r.out _) low_r.out _) low_r.out _) low_r.out _)
set_option maxRecDepth 20000 in
set_option maxHeartbeats 1600000 in
theorem ipj_2 (p : Pl) (l : Jn) (hp : pcode p.a p.b p.c p.d = 0) (hj : jcode l.x l.y = 3) (w : World) : Calls Try.prog 19 #[.agg #[.int .i64 p.a.re, .int .i64 p.a.im, .int .i64 p.b.re, .int .i64 p.b.im, .int .i64 p.c.re, .int .i64 p.c.im, .int .i64 p.d.re, .int .i64 p.d.im], .agg #[.int .i64 l.x.re, .int .i64 l.x.im, .int .i64 l.y.re, .int .i64 l.y.im]] w fun e w' => e = .returned (.agg #[.int .i64 3, .int .i64 0, .int .i64 0, .int .i64 0, .int .i64 0]) ∧ Below w.heap.size w w' := by
  go_enter Try.func19, Try.ntmps19
  have HO : Hid (Below w.heap.size w w) := Below.refl _ _
  go_upto_region 1 with fail
  obtain ⟨v1, hv⟩ : ∃ Xw, Xw = (((w.alloc (.cells #[.int .i64 p.a.re, .int .i64 p.a.im, .int .i64 p.b.re, .int .i64 p.b.im, .int .i64 p.c.re, .int .i64 p.c.im, .int .i64 p.d.re, .int .i64 p.d.im] 27)).alloc (.cells #[.int .i64 l.x.re, .int .i64 l.x.im, .int .i64 l.y.re, .int .i64 l.y.im] 29)).alloc (.cells #[.int .i64 0, .int .i64 0, .int .i64 0, .int .i64 0, .int .i64 0] 33)) := ⟨_, rfl⟩
  rw [← hv]
  have ne_p_l : Hid (w.heap.size ≠ w.heap.size + 1) := by show (w.heap.size : Nat) ≠ w.heap.size + 1; omega
  have ne_p_r : Hid (w.heap.size ≠ w.heap.size + 1 + 1) := by show (w.heap.size : Nat) ≠ w.heap.size + 1 + 1; omega
  have ne_l_r : Hid (w.heap.size + 1 ≠ w.heap.size + 1 + 1) := by show (w.heap.size + 1 : Nat) ≠ w.heap.size + 1 + 1; omega
  have B_p : Hid (Blk v1 (w.heap.size) #[.int .i64 p.a.re, .int .i64 p.a.im, .int .i64 p.b.re, .int .i64 p.b.im, .int .i64 p.c.re, .int .i64 p.c.im, .int .i64 p.d.re, .int .i64 p.d.im] 27) := by show Blk v1 (w.heap.size) _ _; rw [hv]; exact (Blk.alloc (Blk.alloc (Blk.new (by simp)) _) _)
  have low_p : Hid (w.heap.size ≤ w.heap.size) := by show w.heap.size ≤ w.heap.size; have := HO.out.size; omega
  have B_l : Hid (Blk v1 (w.heap.size + 1) #[.int .i64 l.x.re, .int .i64 l.x.im, .int .i64 l.y.re, .int .i64 l.y.im] 29) := by show Blk v1 (w.heap.size + 1) _ _; rw [hv]; exact (Blk.alloc (Blk.new (by simp)) _)
  have low_l : Hid (w.heap.size ≤ w.heap.size + 1) := by show w.heap.size ≤ w.heap.size + 1; have := HO.out.size; omega
  have B_r : Hid (Blk v1 (w.heap.size + 1 + 1) #[.int .i64 0, .int .i64 0, .int .i64 0, .int .i64 0, .int .i64 0] 33) := by show Blk v1 (w.heap.size + 1 + 1) _ _; rw [hv]; exact (Blk.new (by simp))
  have low_r : Hid (w.heap.size ≤ w.heap.size + 1 + 1) := by show w.heap.size ≤ w.heap.size + 1 + 1; have := HO.out.size; omega
  replace HO : Hid (Below w.heap.size w v1) := by show Below w.heap.size w v1; rw [hv]; exact (below_new (below_new (below_new HO.out _) _) _)
  clear hv
  have p_0 := B_p.out.cell (j := 0) rfl
  have p_1 := B_p.out.cell (j := 1) rfl
  have p_2 := B_p.out.cell (j := 2) rfl
  have p_3 := B_p.out.cell (j := 3) rfl
  have p_4 := B_p.out.cell (j := 4) rfl
  have p_5 := B_p.out.cell (j := 5) rfl
  have p_6 := B_p.out.cell (j := 6) rfl
  have p_7 := B_p.out.cell (j := 7) rfl
  have p_f := B_p.out.frozen
  have p_z := B_p.out.lt
  go_wp2_with fail
  refine (iplate p.a p.b p.c p.d _).mono ?_
  rintro e v2 ⟨rfl, hb⟩
  clear p_0 p_1 p_2 p_3 p_4 p_5 p_6 p_7 p_f p_z
  replace B_p : Hid (Blk v2 (w.heap.size) #[.int .i64 p.a.re, .int .i64 p.a.im, .int .i64 p.b.re, .int .i64 p.b.im, .int .i64 p.c.re, .int .i64 p.c.im, .int .i64 p.d.re, .int .i64 p.d.im] 27) := by show Blk v2 (w.heap.size) _ _; exact Blk.old B_p.out hb
  replace B_l : Hid (Blk v2 (w.heap.size + 1) #[.int .i64 l.x.re, .int .i64 l.x.im, .int .i64 l.y.re, .int .i64 l.y.im] 29) := by show Blk v2 (w.heap.size + 1) _ _; exact Blk.old B_l.out hb
  replace B_r : Hid (Blk v2 (w.heap.size + 1 + 1) #[.int .i64 0, .int .i64 0, .int .i64 0, .int .i64 0, .int .i64 0] 33) := by show Blk v2 (w.heap.size + 1 + 1) _ _; exact Blk.old B_r.out hb
  replace HO : Hid (Below w.heap.size w v2) := box_step HO.out hb (Nat.le_refl _)
  clear hb
  rw [hp]
  go_upto_region 2 with fail
  go_upto_region 4 with fail
  have l_0 := B_l.out.cell (j := 0) rfl
  have l_1 := B_l.out.cell (j := 1) rfl
  have l_2 := B_l.out.cell (j := 2) rfl
  have l_3 := B_l.out.cell (j := 3) rfl
  have l_f := B_l.out.frozen
  have l_z := B_l.out.lt
  go_wp2_with fail
  refine (ijones l.x l.y _).mono ?_
  rintro e v3 ⟨rfl, hb⟩
  clear l_0 l_1 l_2 l_3 l_f l_z
  replace B_p : Hid (Blk v3 (w.heap.size) #[.int .i64 p.a.re, .int .i64 p.a.im, .int .i64 p.b.re, .int .i64 p.b.im, .int .i64 p.c.re, .int .i64 p.c.im, .int .i64 p.d.re, .int .i64 p.d.im] 27) := by show Blk v3 (w.heap.size) _ _; exact Blk.old B_p.out hb
  replace B_l : Hid (Blk v3 (w.heap.size + 1) #[.int .i64 l.x.re, .int .i64 l.x.im, .int .i64 l.y.re, .int .i64 l.y.im] 29) := by show Blk v3 (w.heap.size + 1) _ _; exact Blk.old B_l.out hb
  replace B_r : Hid (Blk v3 (w.heap.size + 1 + 1) #[.int .i64 0, .int .i64 0, .int .i64 0, .int .i64 0, .int .i64 0] 33) := by show Blk v3 (w.heap.size + 1 + 1) _ _; exact Blk.old B_r.out hb
  replace HO : Hid (Below w.heap.size w v3) := box_step HO.out hb (Nat.le_refl _)
  clear hb
  rw [hj]
  go_upto_region 5 with fail
  have r_0 := B_r.out.cell (j := 0) rfl
  have r_1 := B_r.out.cell (j := 1) rfl
  have r_2 := B_r.out.cell (j := 2) rfl
  have r_3 := B_r.out.cell (j := 3) rfl
  have r_4 := B_r.out.cell (j := 4) rfl
  have r_f := B_r.out.frozen
  have r_z := B_r.out.lt
  go_wp2
  refine bodyPost_ret (v := .agg #[.int .i64 3, .int .i64 0, .int .i64 0, .int .i64 0, .int .i64 0]) (by simp [results, Try.results19, go_sem, r_0, r_1, r_2, r_3, r_4, r_f, r_z] <;> (repeat' (first | rfl | apply And.intro))) rfl ⟨rfl, ?_⟩
  exact (Below.setCell (Below.setCell (Below.setCell (Below.setCell (Below.setCell HO.out low_r.out _) low_r.out _) low_r.out _) low_r.out _) low_r.out _)
set_option maxRecDepth 20000 in
set_option maxHeartbeats 1600000 in
theorem ipj_3 (p : Pl) (l : Jn) (hp : pcode p.a p.b p.c p.d = 0) (hj : jcode l.x l.y = 0) (ho : jcode (two p.a l.x p.b l.y) (two p.c l.x p.d l.y) = 3) (w : World) : Calls Try.prog 19 #[.agg #[.int .i64 p.a.re, .int .i64 p.a.im, .int .i64 p.b.re, .int .i64 p.b.im, .int .i64 p.c.re, .int .i64 p.c.im, .int .i64 p.d.re, .int .i64 p.d.im], .agg #[.int .i64 l.x.re, .int .i64 l.x.im, .int .i64 l.y.re, .int .i64 l.y.im]] w fun e w' => e = .returned (.agg #[.int .i64 3, .int .i64 0, .int .i64 0, .int .i64 0, .int .i64 0]) ∧ Below w.heap.size w w' := by
  go_enter Try.func19, Try.ntmps19
  have HO : Hid (Below w.heap.size w w) := Below.refl _ _
  go_upto_region 1 with fail
  obtain ⟨v1, hv⟩ : ∃ Xw, Xw = (((w.alloc (.cells #[.int .i64 p.a.re, .int .i64 p.a.im, .int .i64 p.b.re, .int .i64 p.b.im, .int .i64 p.c.re, .int .i64 p.c.im, .int .i64 p.d.re, .int .i64 p.d.im] 27)).alloc (.cells #[.int .i64 l.x.re, .int .i64 l.x.im, .int .i64 l.y.re, .int .i64 l.y.im] 29)).alloc (.cells #[.int .i64 0, .int .i64 0, .int .i64 0, .int .i64 0, .int .i64 0] 33)) := ⟨_, rfl⟩
  rw [← hv]
  have ne_p_l : Hid (w.heap.size ≠ w.heap.size + 1) := by show (w.heap.size : Nat) ≠ w.heap.size + 1; omega
  have ne_p_r : Hid (w.heap.size ≠ w.heap.size + 1 + 1) := by show (w.heap.size : Nat) ≠ w.heap.size + 1 + 1; omega
  have ne_l_r : Hid (w.heap.size + 1 ≠ w.heap.size + 1 + 1) := by show (w.heap.size + 1 : Nat) ≠ w.heap.size + 1 + 1; omega
  have B_p : Hid (Blk v1 (w.heap.size) #[.int .i64 p.a.re, .int .i64 p.a.im, .int .i64 p.b.re, .int .i64 p.b.im, .int .i64 p.c.re, .int .i64 p.c.im, .int .i64 p.d.re, .int .i64 p.d.im] 27) := by show Blk v1 (w.heap.size) _ _; rw [hv]; exact (Blk.alloc (Blk.alloc (Blk.new (by simp)) _) _)
  have low_p : Hid (w.heap.size ≤ w.heap.size) := by show w.heap.size ≤ w.heap.size; have := HO.out.size; omega
  have B_l : Hid (Blk v1 (w.heap.size + 1) #[.int .i64 l.x.re, .int .i64 l.x.im, .int .i64 l.y.re, .int .i64 l.y.im] 29) := by show Blk v1 (w.heap.size + 1) _ _; rw [hv]; exact (Blk.alloc (Blk.new (by simp)) _)
  have low_l : Hid (w.heap.size ≤ w.heap.size + 1) := by show w.heap.size ≤ w.heap.size + 1; have := HO.out.size; omega
  have B_r : Hid (Blk v1 (w.heap.size + 1 + 1) #[.int .i64 0, .int .i64 0, .int .i64 0, .int .i64 0, .int .i64 0] 33) := by show Blk v1 (w.heap.size + 1 + 1) _ _; rw [hv]; exact (Blk.new (by simp))
  have low_r : Hid (w.heap.size ≤ w.heap.size + 1 + 1) := by show w.heap.size ≤ w.heap.size + 1 + 1; have := HO.out.size; omega
  replace HO : Hid (Below w.heap.size w v1) := by show Below w.heap.size w v1; rw [hv]; exact (below_new (below_new (below_new HO.out _) _) _)
  clear hv
  have p_0 := B_p.out.cell (j := 0) rfl
  have p_1 := B_p.out.cell (j := 1) rfl
  have p_2 := B_p.out.cell (j := 2) rfl
  have p_3 := B_p.out.cell (j := 3) rfl
  have p_4 := B_p.out.cell (j := 4) rfl
  have p_5 := B_p.out.cell (j := 5) rfl
  have p_6 := B_p.out.cell (j := 6) rfl
  have p_7 := B_p.out.cell (j := 7) rfl
  have p_f := B_p.out.frozen
  have p_z := B_p.out.lt
  go_wp2_with fail
  refine (iplate p.a p.b p.c p.d _).mono ?_
  rintro e v2 ⟨rfl, hb⟩
  clear p_0 p_1 p_2 p_3 p_4 p_5 p_6 p_7 p_f p_z
  replace B_p : Hid (Blk v2 (w.heap.size) #[.int .i64 p.a.re, .int .i64 p.a.im, .int .i64 p.b.re, .int .i64 p.b.im, .int .i64 p.c.re, .int .i64 p.c.im, .int .i64 p.d.re, .int .i64 p.d.im] 27) := by show Blk v2 (w.heap.size) _ _; exact Blk.old B_p.out hb
  replace B_l : Hid (Blk v2 (w.heap.size + 1) #[.int .i64 l.x.re, .int .i64 l.x.im, .int .i64 l.y.re, .int .i64 l.y.im] 29) := by show Blk v2 (w.heap.size + 1) _ _; exact Blk.old B_l.out hb
  replace B_r : Hid (Blk v2 (w.heap.size + 1 + 1) #[.int .i64 0, .int .i64 0, .int .i64 0, .int .i64 0, .int .i64 0] 33) := by show Blk v2 (w.heap.size + 1 + 1) _ _; exact Blk.old B_r.out hb
  replace HO : Hid (Below w.heap.size w v2) := box_step HO.out hb (Nat.le_refl _)
  clear hb
  rw [hp]
  go_upto_region 2 with fail
  go_upto_region 4 with fail
  have l_0 := B_l.out.cell (j := 0) rfl
  have l_1 := B_l.out.cell (j := 1) rfl
  have l_2 := B_l.out.cell (j := 2) rfl
  have l_3 := B_l.out.cell (j := 3) rfl
  have l_f := B_l.out.frozen
  have l_z := B_l.out.lt
  go_wp2_with fail
  refine (ijones l.x l.y _).mono ?_
  rintro e v3 ⟨rfl, hb⟩
  clear l_0 l_1 l_2 l_3 l_f l_z
  replace B_p : Hid (Blk v3 (w.heap.size) #[.int .i64 p.a.re, .int .i64 p.a.im, .int .i64 p.b.re, .int .i64 p.b.im, .int .i64 p.c.re, .int .i64 p.c.im, .int .i64 p.d.re, .int .i64 p.d.im] 27) := by show Blk v3 (w.heap.size) _ _; exact Blk.old B_p.out hb
  replace B_l : Hid (Blk v3 (w.heap.size + 1) #[.int .i64 l.x.re, .int .i64 l.x.im, .int .i64 l.y.re, .int .i64 l.y.im] 29) := by show Blk v3 (w.heap.size + 1) _ _; exact Blk.old B_l.out hb
  replace B_r : Hid (Blk v3 (w.heap.size + 1 + 1) #[.int .i64 0, .int .i64 0, .int .i64 0, .int .i64 0, .int .i64 0] 33) := by show Blk v3 (w.heap.size + 1 + 1) _ _; exact Blk.old B_r.out hb
  replace HO : Hid (Below w.heap.size w v3) := box_step HO.out hb (Nat.le_refl _)
  clear hb
  rw [hj]
  go_upto_region 5 with fail
  go_upto_region 7 with fail
  have p_0 := B_p.out.cell (j := 0) rfl
  have p_1 := B_p.out.cell (j := 1) rfl
  have p_2 := B_p.out.cell (j := 2) rfl
  have p_3 := B_p.out.cell (j := 3) rfl
  have p_4 := B_p.out.cell (j := 4) rfl
  have p_5 := B_p.out.cell (j := 5) rfl
  have p_6 := B_p.out.cell (j := 6) rfl
  have p_7 := B_p.out.cell (j := 7) rfl
  have p_f := B_p.out.frozen
  have p_z := B_p.out.lt
  have l_0 := B_l.out.cell (j := 0) rfl
  have l_1 := B_l.out.cell (j := 1) rfl
  have l_2 := B_l.out.cell (j := 2) rfl
  have l_3 := B_l.out.cell (j := 3) rfl
  have l_f := B_l.out.frozen
  have l_z := B_l.out.lt
  go_wp2_with fail
  refine (ipass p.a p.b p.c p.d l.x l.y _).mono ?_
  rintro e v4 ⟨rfl, hb⟩
  clear p_0 p_1 p_2 p_3 p_4 p_5 p_6 p_7 p_f p_z l_0 l_1 l_2 l_3 l_f l_z
  replace B_p : Hid (Blk v4 (w.heap.size) #[.int .i64 p.a.re, .int .i64 p.a.im, .int .i64 p.b.re, .int .i64 p.b.im, .int .i64 p.c.re, .int .i64 p.c.im, .int .i64 p.d.re, .int .i64 p.d.im] 27) := by show Blk v4 (w.heap.size) _ _; exact Blk.old B_p.out hb
  replace B_l : Hid (Blk v4 (w.heap.size + 1) #[.int .i64 l.x.re, .int .i64 l.x.im, .int .i64 l.y.re, .int .i64 l.y.im] 29) := by show Blk v4 (w.heap.size + 1) _ _; exact Blk.old B_l.out hb
  replace B_r : Hid (Blk v4 (w.heap.size + 1 + 1) #[.int .i64 0, .int .i64 0, .int .i64 0, .int .i64 0, .int .i64 0] 33) := by show Blk v4 (w.heap.size + 1 + 1) _ _; exact Blk.old B_r.out hb
  replace HO : Hid (Below w.heap.size w v4) := box_step HO.out hb (Nat.le_refl _)
  clear hb
  go_upto_region 8 with fail
  obtain ⟨v5, hv⟩ : ∃ Xw, Xw = (v4.alloc (.cells #[.int .i64 ((two p.a l.x p.b l.y).re), .int .i64 ((two p.a l.x p.b l.y).im), .int .i64 ((two p.c l.x p.d l.y).re), .int .i64 ((two p.c l.x p.d l.y).im)] 29)) := ⟨_, rfl⟩
  rw [← hv]
  have ne_p_b : Hid (w.heap.size ≠ v4.heap.size) := Nat.ne_of_lt (Nat.lt_of_lt_of_le B_p.out.lt (by omega))
  have ne_l_b : Hid (w.heap.size + 1 ≠ v4.heap.size) := Nat.ne_of_lt (Nat.lt_of_lt_of_le B_l.out.lt (by omega))
  have ne_r_b : Hid (w.heap.size + 1 + 1 ≠ v4.heap.size) := Nat.ne_of_lt (Nat.lt_of_lt_of_le B_r.out.lt (by omega))
  have B_b : Hid (Blk v5 (v4.heap.size) #[.int .i64 ((two p.a l.x p.b l.y).re), .int .i64 ((two p.a l.x p.b l.y).im), .int .i64 ((two p.c l.x p.d l.y).re), .int .i64 ((two p.c l.x p.d l.y).im)] 29) := by show Blk v5 (v4.heap.size) _ _; rw [hv]; exact (Blk.new (by simp))
  have low_b : Hid (w.heap.size ≤ v4.heap.size) := by show w.heap.size ≤ v4.heap.size; have := HO.out.size; omega
  replace B_p : Hid (Blk v5 (w.heap.size) #[.int .i64 p.a.re, .int .i64 p.a.im, .int .i64 p.b.re, .int .i64 p.b.im, .int .i64 p.c.re, .int .i64 p.c.im, .int .i64 p.d.re, .int .i64 p.d.im] 27) := by show Blk v5 (w.heap.size) _ _; rw [hv]; exact (Blk.alloc B_p.out _)
  replace B_l : Hid (Blk v5 (w.heap.size + 1) #[.int .i64 l.x.re, .int .i64 l.x.im, .int .i64 l.y.re, .int .i64 l.y.im] 29) := by show Blk v5 (w.heap.size + 1) _ _; rw [hv]; exact (Blk.alloc B_l.out _)
  replace B_r : Hid (Blk v5 (w.heap.size + 1 + 1) #[.int .i64 0, .int .i64 0, .int .i64 0, .int .i64 0, .int .i64 0] 33) := by show Blk v5 (w.heap.size + 1 + 1) _ _; rw [hv]; exact (Blk.alloc B_r.out _)
  replace HO : Hid (Below w.heap.size w v5) := by show Below w.heap.size w v5; rw [hv]; exact (below_new HO.out _)
  clear hv
  have b_0 := B_b.out.cell (j := 0) rfl
  have b_1 := B_b.out.cell (j := 1) rfl
  have b_2 := B_b.out.cell (j := 2) rfl
  have b_3 := B_b.out.cell (j := 3) rfl
  have b_f := B_b.out.frozen
  have b_z := B_b.out.lt
  go_wp2_with fail
  refine (ijones (two p.a l.x p.b l.y) (two p.c l.x p.d l.y) _).mono ?_
  rintro e v6 ⟨rfl, hb⟩
  clear b_0 b_1 b_2 b_3 b_f b_z
  replace B_p : Hid (Blk v6 (w.heap.size) #[.int .i64 p.a.re, .int .i64 p.a.im, .int .i64 p.b.re, .int .i64 p.b.im, .int .i64 p.c.re, .int .i64 p.c.im, .int .i64 p.d.re, .int .i64 p.d.im] 27) := by show Blk v6 (w.heap.size) _ _; exact Blk.old B_p.out hb
  replace B_l : Hid (Blk v6 (w.heap.size + 1) #[.int .i64 l.x.re, .int .i64 l.x.im, .int .i64 l.y.re, .int .i64 l.y.im] 29) := by show Blk v6 (w.heap.size + 1) _ _; exact Blk.old B_l.out hb
  replace B_r : Hid (Blk v6 (w.heap.size + 1 + 1) #[.int .i64 0, .int .i64 0, .int .i64 0, .int .i64 0, .int .i64 0] 33) := by show Blk v6 (w.heap.size + 1 + 1) _ _; exact Blk.old B_r.out hb
  replace B_b : Hid (Blk v6 (v4.heap.size) #[.int .i64 ((two p.a l.x p.b l.y).re), .int .i64 ((two p.a l.x p.b l.y).im), .int .i64 ((two p.c l.x p.d l.y).re), .int .i64 ((two p.c l.x p.d l.y).im)] 29) := by show Blk v6 (v4.heap.size) _ _; exact Blk.old B_b.out hb
  replace HO : Hid (Below w.heap.size w v6) := box_step HO.out hb (Nat.le_refl _)
  clear hb
  rw [ho]
  go_upto_region 9 with fail
  have r_0 := B_r.out.cell (j := 0) rfl
  have r_1 := B_r.out.cell (j := 1) rfl
  have r_2 := B_r.out.cell (j := 2) rfl
  have r_3 := B_r.out.cell (j := 3) rfl
  have r_4 := B_r.out.cell (j := 4) rfl
  have r_f := B_r.out.frozen
  have r_z := B_r.out.lt
  go_wp2
  refine bodyPost_ret (v := .agg #[.int .i64 3, .int .i64 0, .int .i64 0, .int .i64 0, .int .i64 0]) (by simp [results, Try.results19, go_sem, r_0, r_1, r_2, r_3, r_4, r_f, r_z] <;> (repeat' (first | rfl | apply And.intro))) rfl ⟨rfl, ?_⟩
  exact (Below.setCell (Below.setCell (Below.setCell (Below.setCell (Below.setCell HO.out low_r.out _) low_r.out _) low_r.out _) low_r.out _) low_r.out _)
set_option maxRecDepth 20000 in
set_option maxHeartbeats 1600000 in
theorem ipj_4 (p : Pl) (l : Jn) (hp : pcode p.a p.b p.c p.d = 0) (hj : jcode l.x l.y = 0) (ho : jcode (two p.a l.x p.b l.y) (two p.c l.x p.d l.y) = 0) (w : World) : Calls Try.prog 19 #[.agg #[.int .i64 p.a.re, .int .i64 p.a.im, .int .i64 p.b.re, .int .i64 p.b.im, .int .i64 p.c.re, .int .i64 p.c.im, .int .i64 p.d.re, .int .i64 p.d.im], .agg #[.int .i64 l.x.re, .int .i64 l.x.im, .int .i64 l.y.re, .int .i64 l.y.im]] w fun e w' => e = .returned (.agg #[.int .i64 0, .int .i64 ((two p.a l.x p.b l.y).re), .int .i64 ((two p.a l.x p.b l.y).im), .int .i64 ((two p.c l.x p.d l.y).re), .int .i64 ((two p.c l.x p.d l.y).im)]) ∧ Below w.heap.size w w' := by
  go_enter Try.func19, Try.ntmps19
  have HO : Hid (Below w.heap.size w w) := Below.refl _ _
  go_upto_region 1 with fail
  obtain ⟨v1, hv⟩ : ∃ Xw, Xw = (((w.alloc (.cells #[.int .i64 p.a.re, .int .i64 p.a.im, .int .i64 p.b.re, .int .i64 p.b.im, .int .i64 p.c.re, .int .i64 p.c.im, .int .i64 p.d.re, .int .i64 p.d.im] 27)).alloc (.cells #[.int .i64 l.x.re, .int .i64 l.x.im, .int .i64 l.y.re, .int .i64 l.y.im] 29)).alloc (.cells #[.int .i64 0, .int .i64 0, .int .i64 0, .int .i64 0, .int .i64 0] 33)) := ⟨_, rfl⟩
  rw [← hv]
  have ne_p_l : Hid (w.heap.size ≠ w.heap.size + 1) := by show (w.heap.size : Nat) ≠ w.heap.size + 1; omega
  have ne_p_r : Hid (w.heap.size ≠ w.heap.size + 1 + 1) := by show (w.heap.size : Nat) ≠ w.heap.size + 1 + 1; omega
  have ne_l_r : Hid (w.heap.size + 1 ≠ w.heap.size + 1 + 1) := by show (w.heap.size + 1 : Nat) ≠ w.heap.size + 1 + 1; omega
  have B_p : Hid (Blk v1 (w.heap.size) #[.int .i64 p.a.re, .int .i64 p.a.im, .int .i64 p.b.re, .int .i64 p.b.im, .int .i64 p.c.re, .int .i64 p.c.im, .int .i64 p.d.re, .int .i64 p.d.im] 27) := by show Blk v1 (w.heap.size) _ _; rw [hv]; exact (Blk.alloc (Blk.alloc (Blk.new (by simp)) _) _)
  have low_p : Hid (w.heap.size ≤ w.heap.size) := by show w.heap.size ≤ w.heap.size; have := HO.out.size; omega
  have B_l : Hid (Blk v1 (w.heap.size + 1) #[.int .i64 l.x.re, .int .i64 l.x.im, .int .i64 l.y.re, .int .i64 l.y.im] 29) := by show Blk v1 (w.heap.size + 1) _ _; rw [hv]; exact (Blk.alloc (Blk.new (by simp)) _)
  have low_l : Hid (w.heap.size ≤ w.heap.size + 1) := by show w.heap.size ≤ w.heap.size + 1; have := HO.out.size; omega
  have B_r : Hid (Blk v1 (w.heap.size + 1 + 1) #[.int .i64 0, .int .i64 0, .int .i64 0, .int .i64 0, .int .i64 0] 33) := by show Blk v1 (w.heap.size + 1 + 1) _ _; rw [hv]; exact (Blk.new (by simp))
  have low_r : Hid (w.heap.size ≤ w.heap.size + 1 + 1) := by show w.heap.size ≤ w.heap.size + 1 + 1; have := HO.out.size; omega
  replace HO : Hid (Below w.heap.size w v1) := by show Below w.heap.size w v1; rw [hv]; exact (below_new (below_new (below_new HO.out _) _) _)
  clear hv
  have p_0 := B_p.out.cell (j := 0) rfl
  have p_1 := B_p.out.cell (j := 1) rfl
  have p_2 := B_p.out.cell (j := 2) rfl
  have p_3 := B_p.out.cell (j := 3) rfl
  have p_4 := B_p.out.cell (j := 4) rfl
  have p_5 := B_p.out.cell (j := 5) rfl
  have p_6 := B_p.out.cell (j := 6) rfl
  have p_7 := B_p.out.cell (j := 7) rfl
  have p_f := B_p.out.frozen
  have p_z := B_p.out.lt
  go_wp2_with fail
  refine (iplate p.a p.b p.c p.d _).mono ?_
  rintro e v2 ⟨rfl, hb⟩
  clear p_0 p_1 p_2 p_3 p_4 p_5 p_6 p_7 p_f p_z
  replace B_p : Hid (Blk v2 (w.heap.size) #[.int .i64 p.a.re, .int .i64 p.a.im, .int .i64 p.b.re, .int .i64 p.b.im, .int .i64 p.c.re, .int .i64 p.c.im, .int .i64 p.d.re, .int .i64 p.d.im] 27) := by show Blk v2 (w.heap.size) _ _; exact Blk.old B_p.out hb
  replace B_l : Hid (Blk v2 (w.heap.size + 1) #[.int .i64 l.x.re, .int .i64 l.x.im, .int .i64 l.y.re, .int .i64 l.y.im] 29) := by show Blk v2 (w.heap.size + 1) _ _; exact Blk.old B_l.out hb
  replace B_r : Hid (Blk v2 (w.heap.size + 1 + 1) #[.int .i64 0, .int .i64 0, .int .i64 0, .int .i64 0, .int .i64 0] 33) := by show Blk v2 (w.heap.size + 1 + 1) _ _; exact Blk.old B_r.out hb
  replace HO : Hid (Below w.heap.size w v2) := box_step HO.out hb (Nat.le_refl _)
  clear hb
  rw [hp]
  go_upto_region 2 with fail
  go_upto_region 4 with fail
  have l_0 := B_l.out.cell (j := 0) rfl
  have l_1 := B_l.out.cell (j := 1) rfl
  have l_2 := B_l.out.cell (j := 2) rfl
  have l_3 := B_l.out.cell (j := 3) rfl
  have l_f := B_l.out.frozen
  have l_z := B_l.out.lt
  go_wp2_with fail
  refine (ijones l.x l.y _).mono ?_
  rintro e v3 ⟨rfl, hb⟩
  clear l_0 l_1 l_2 l_3 l_f l_z
  replace B_p : Hid (Blk v3 (w.heap.size) #[.int .i64 p.a.re, .int .i64 p.a.im, .int .i64 p.b.re, .int .i64 p.b.im, .int .i64 p.c.re, .int .i64 p.c.im, .int .i64 p.d.re, .int .i64 p.d.im] 27) := by show Blk v3 (w.heap.size) _ _; exact Blk.old B_p.out hb
  replace B_l : Hid (Blk v3 (w.heap.size + 1) #[.int .i64 l.x.re, .int .i64 l.x.im, .int .i64 l.y.re, .int .i64 l.y.im] 29) := by show Blk v3 (w.heap.size + 1) _ _; exact Blk.old B_l.out hb
  replace B_r : Hid (Blk v3 (w.heap.size + 1 + 1) #[.int .i64 0, .int .i64 0, .int .i64 0, .int .i64 0, .int .i64 0] 33) := by show Blk v3 (w.heap.size + 1 + 1) _ _; exact Blk.old B_r.out hb
  replace HO : Hid (Below w.heap.size w v3) := box_step HO.out hb (Nat.le_refl _)
  clear hb
  rw [hj]
  go_upto_region 5 with fail
  go_upto_region 7 with fail
  have p_0 := B_p.out.cell (j := 0) rfl
  have p_1 := B_p.out.cell (j := 1) rfl
  have p_2 := B_p.out.cell (j := 2) rfl
  have p_3 := B_p.out.cell (j := 3) rfl
  have p_4 := B_p.out.cell (j := 4) rfl
  have p_5 := B_p.out.cell (j := 5) rfl
  have p_6 := B_p.out.cell (j := 6) rfl
  have p_7 := B_p.out.cell (j := 7) rfl
  have p_f := B_p.out.frozen
  have p_z := B_p.out.lt
  have l_0 := B_l.out.cell (j := 0) rfl
  have l_1 := B_l.out.cell (j := 1) rfl
  have l_2 := B_l.out.cell (j := 2) rfl
  have l_3 := B_l.out.cell (j := 3) rfl
  have l_f := B_l.out.frozen
  have l_z := B_l.out.lt
  go_wp2_with fail
  refine (ipass p.a p.b p.c p.d l.x l.y _).mono ?_
  rintro e v4 ⟨rfl, hb⟩
  clear p_0 p_1 p_2 p_3 p_4 p_5 p_6 p_7 p_f p_z l_0 l_1 l_2 l_3 l_f l_z
  replace B_p : Hid (Blk v4 (w.heap.size) #[.int .i64 p.a.re, .int .i64 p.a.im, .int .i64 p.b.re, .int .i64 p.b.im, .int .i64 p.c.re, .int .i64 p.c.im, .int .i64 p.d.re, .int .i64 p.d.im] 27) := by show Blk v4 (w.heap.size) _ _; exact Blk.old B_p.out hb
  replace B_l : Hid (Blk v4 (w.heap.size + 1) #[.int .i64 l.x.re, .int .i64 l.x.im, .int .i64 l.y.re, .int .i64 l.y.im] 29) := by show Blk v4 (w.heap.size + 1) _ _; exact Blk.old B_l.out hb
  replace B_r : Hid (Blk v4 (w.heap.size + 1 + 1) #[.int .i64 0, .int .i64 0, .int .i64 0, .int .i64 0, .int .i64 0] 33) := by show Blk v4 (w.heap.size + 1 + 1) _ _; exact Blk.old B_r.out hb
  replace HO : Hid (Below w.heap.size w v4) := box_step HO.out hb (Nat.le_refl _)
  clear hb
  go_upto_region 8 with fail
  obtain ⟨v5, hv⟩ : ∃ Xw, Xw = (v4.alloc (.cells #[.int .i64 ((two p.a l.x p.b l.y).re), .int .i64 ((two p.a l.x p.b l.y).im), .int .i64 ((two p.c l.x p.d l.y).re), .int .i64 ((two p.c l.x p.d l.y).im)] 29)) := ⟨_, rfl⟩
  rw [← hv]
  have ne_p_b : Hid (w.heap.size ≠ v4.heap.size) := Nat.ne_of_lt (Nat.lt_of_lt_of_le B_p.out.lt (by omega))
  have ne_l_b : Hid (w.heap.size + 1 ≠ v4.heap.size) := Nat.ne_of_lt (Nat.lt_of_lt_of_le B_l.out.lt (by omega))
  have ne_r_b : Hid (w.heap.size + 1 + 1 ≠ v4.heap.size) := Nat.ne_of_lt (Nat.lt_of_lt_of_le B_r.out.lt (by omega))
  have B_b : Hid (Blk v5 (v4.heap.size) #[.int .i64 ((two p.a l.x p.b l.y).re), .int .i64 ((two p.a l.x p.b l.y).im), .int .i64 ((two p.c l.x p.d l.y).re), .int .i64 ((two p.c l.x p.d l.y).im)] 29) := by show Blk v5 (v4.heap.size) _ _; rw [hv]; exact (Blk.new (by simp))
  have low_b : Hid (w.heap.size ≤ v4.heap.size) := by show w.heap.size ≤ v4.heap.size; have := HO.out.size; omega
  replace B_p : Hid (Blk v5 (w.heap.size) #[.int .i64 p.a.re, .int .i64 p.a.im, .int .i64 p.b.re, .int .i64 p.b.im, .int .i64 p.c.re, .int .i64 p.c.im, .int .i64 p.d.re, .int .i64 p.d.im] 27) := by show Blk v5 (w.heap.size) _ _; rw [hv]; exact (Blk.alloc B_p.out _)
  replace B_l : Hid (Blk v5 (w.heap.size + 1) #[.int .i64 l.x.re, .int .i64 l.x.im, .int .i64 l.y.re, .int .i64 l.y.im] 29) := by show Blk v5 (w.heap.size + 1) _ _; rw [hv]; exact (Blk.alloc B_l.out _)
  replace B_r : Hid (Blk v5 (w.heap.size + 1 + 1) #[.int .i64 0, .int .i64 0, .int .i64 0, .int .i64 0, .int .i64 0] 33) := by show Blk v5 (w.heap.size + 1 + 1) _ _; rw [hv]; exact (Blk.alloc B_r.out _)
  replace HO : Hid (Below w.heap.size w v5) := by show Below w.heap.size w v5; rw [hv]; exact (below_new HO.out _)
  clear hv
  have b_0 := B_b.out.cell (j := 0) rfl
  have b_1 := B_b.out.cell (j := 1) rfl
  have b_2 := B_b.out.cell (j := 2) rfl
  have b_3 := B_b.out.cell (j := 3) rfl
  have b_f := B_b.out.frozen
  have b_z := B_b.out.lt
  go_wp2_with fail
  refine (ijones (two p.a l.x p.b l.y) (two p.c l.x p.d l.y) _).mono ?_
  rintro e v6 ⟨rfl, hb⟩
  clear b_0 b_1 b_2 b_3 b_f b_z
  replace B_p : Hid (Blk v6 (w.heap.size) #[.int .i64 p.a.re, .int .i64 p.a.im, .int .i64 p.b.re, .int .i64 p.b.im, .int .i64 p.c.re, .int .i64 p.c.im, .int .i64 p.d.re, .int .i64 p.d.im] 27) := by show Blk v6 (w.heap.size) _ _; exact Blk.old B_p.out hb
  replace B_l : Hid (Blk v6 (w.heap.size + 1) #[.int .i64 l.x.re, .int .i64 l.x.im, .int .i64 l.y.re, .int .i64 l.y.im] 29) := by show Blk v6 (w.heap.size + 1) _ _; exact Blk.old B_l.out hb
  replace B_r : Hid (Blk v6 (w.heap.size + 1 + 1) #[.int .i64 0, .int .i64 0, .int .i64 0, .int .i64 0, .int .i64 0] 33) := by show Blk v6 (w.heap.size + 1 + 1) _ _; exact Blk.old B_r.out hb
  replace B_b : Hid (Blk v6 (v4.heap.size) #[.int .i64 ((two p.a l.x p.b l.y).re), .int .i64 ((two p.a l.x p.b l.y).im), .int .i64 ((two p.c l.x p.d l.y).re), .int .i64 ((two p.c l.x p.d l.y).im)] 29) := by show Blk v6 (v4.heap.size) _ _; exact Blk.old B_b.out hb
  replace HO : Hid (Below w.heap.size w v6) := box_step HO.out hb (Nat.le_refl _)
  clear hb
  rw [ho]
  go_upto_region 9 with fail
  go_upto_region 11 with fail
  have b_0 := B_b.out.cell (j := 0) rfl
  have b_1 := B_b.out.cell (j := 1) rfl
  have b_2 := B_b.out.cell (j := 2) rfl
  have b_3 := B_b.out.cell (j := 3) rfl
  have b_f := B_b.out.frozen
  have b_z := B_b.out.lt
  have r_0 := B_r.out.cell (j := 0) rfl
  have r_1 := B_r.out.cell (j := 1) rfl
  have r_2 := B_r.out.cell (j := 2) rfl
  have r_3 := B_r.out.cell (j := 3) rfl
  have r_4 := B_r.out.cell (j := 4) rfl
  have r_f := B_r.out.frozen
  have r_z := B_r.out.lt
  go_wp2
  refine bodyPost_ret (v := .agg #[.int .i64 0, .int .i64 ((two p.a l.x p.b l.y).re), .int .i64 ((two p.a l.x p.b l.y).im), .int .i64 ((two p.c l.x p.d l.y).re), .int .i64 ((two p.c l.x p.d l.y).im)]) (by simp [results, Try.results19, go_sem, b_0, b_1, b_2, b_3, b_f, b_z, r_0, r_1, r_2, r_3, r_4, r_f, r_z] <;> (repeat' (first | rfl | apply And.intro))) rfl ⟨rfl, ?_⟩
  exact (Below.setCell (Below.setCell (Below.setCell (Below.setCell (Below.setCell HO.out low_r.out _) low_r.out _) low_r.out _) low_r.out _) low_r.out _)
end Go.Proofs.Ytloebnlmeplgbaa
