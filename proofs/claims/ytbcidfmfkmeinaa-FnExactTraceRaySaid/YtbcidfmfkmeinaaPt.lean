/- Points on a ray, normals, slopes: both packages. -/
import Derived.Test.YtbcidfmfkmeinaaHp
import Derived.Test.YtbcidfmfkmeinaaSi
namespace Go.Proofs.Ytbcidfmfkmeinaa
open Go.RowKit Fl
set_option linter.unusedVariables false
set_option linter.unusedSimpArgs false
set_option maxRecDepth 20000 in
set_option maxHeartbeats 3200000 in
theorem iAt_any {a : Nat → Nat} {A : Nat → Option Nat} {l : Nat} {L : Option Nat} (ha : Rc a A) (hl : Fc l L) (w : World) : RV 31 #[Rv a, .float .f64 l] w (posC A L) := by
  unfold RV
  have H : Hid (Rc a A ∧ Fc l L) := ⟨ha, hl⟩
  clear ha hl
  have hst := st64
  go_enter Try.func31, Try.ntmps31
  have HO : Hid (Below w.heap.size w w) := Below.refl _ _
  go_upto_region 1 with fail
  obtain ⟨v1, hv⟩ : ∃ X, X = ((w.alloc (.cells #[.float .f64 (a 0), .float .f64 (a 1), .float .f64 (a 2), .float .f64 (a 3), .float .f64 (a 4), .float .f64 (a 5)] 33)).alloc (.cells #[.float .f64 0, .float .f64 0, .float .f64 0, .float .f64 0, .float .f64 0, .float .f64 0] 33)) := ⟨_, rfl⟩
  rw [← hv]
  have ne_a_r : Hid (w.heap.size ≠ w.heap.size + 1) := by show (w.heap.size : Nat) ≠ w.heap.size + 1; omega
  have B_a : Hid (Blk v1 (w.heap.size) #[.float .f64 (a 0), .float .f64 (a 1), .float .f64 (a 2), .float .f64 (a 3), .float .f64 (a 4), .float .f64 (a 5)] 33) := by show Blk v1 (w.heap.size) _ _; rw [hv]; exact (Blk.alloc (Blk.new (by simp)) _)
  have low_a : Hid (w.heap.size ≤ w.heap.size) := by show w.heap.size ≤ w.heap.size; have := HO.out.size; omega
  have B_r : Hid (Blk v1 (w.heap.size + 1) #[.float .f64 0, .float .f64 0, .float .f64 0, .float .f64 0, .float .f64 0, .float .f64 0] 33) := by show Blk v1 (w.heap.size + 1) _ _; rw [hv]; exact (Blk.new (by simp))
  have low_r : Hid (w.heap.size ≤ w.heap.size + 1) := by show w.heap.size ≤ w.heap.size + 1; have := HO.out.size; omega
  replace HO : Hid (Below w.heap.size w v1) := by show Below w.heap.size w v1; rw [hv]; exact (below_new (below_new HO.out _) _)
  clear hv
  obtain ⟨s2, q2, h2, F2⟩ := flop .mul (by simp) (H.out.2) ((H.out.1.h 3 (by decide))) v1
  replace F2 : Hid _ := F2
  obtain ⟨s3, q3, h3, F3⟩ := flop .add (by simp) ((H.out.1.h 0 (by decide))) (F2.out) (v1.drewN (q2))
  replace F3 : Hid _ := F3
  have a_0 := B_a.out.cell (j := 0) rfl
  have a_1 := B_a.out.cell (j := 1) rfl
  have a_2 := B_a.out.cell (j := 2) rfl
  have a_3 := B_a.out.cell (j := 3) rfl
  have a_4 := B_a.out.cell (j := 4) rfl
  have a_5 := B_a.out.cell (j := 5) rfl
  have a_f := B_a.out.frozen
  have a_z := B_a.out.lt
  go_upto_region 2 with fail
  clear a_0 a_1 a_2 a_3 a_4 a_5 a_f a_z
  obtain ⟨v4, hv⟩ : ∃ X, X = ((v1.drewN (q2 + q3)).setCell ⟨w.heap.size, 0, none⟩ (.float .f64 s3)) := ⟨_, rfl⟩
  rw [← hv]
  clear h2 h3
  replace B_a : Hid (Blk v4 (w.heap.size) #[.float .f64 s3, .float .f64 (a 1), .float .f64 (a 2), .float .f64 (a 3), .float .f64 (a 4), .float .f64 (a 5)] 33) := by show Blk v4 (w.heap.size) _ _; rw [hv]; exact (Blk.set (Blk.drewN B_a.out _) _ _ rfl)
  replace B_r : Hid (Blk v4 (w.heap.size + 1) #[.float .f64 0, .float .f64 0, .float .f64 0, .float .f64 0, .float .f64 0, .float .f64 0] 33) := by show Blk v4 (w.heap.size + 1) _ _; rw [hv]; exact (Blk.setOther (Blk.drewN B_r.out _) (Ne.symm ne_a_r.out) _)
  replace HO : Hid (Below w.heap.size w v4) := by show Below w.heap.size w v4; rw [hv]; exact (Below.setCell (below_drewN HO.out _) low_a.out _)
  clear hv
  obtain ⟨s5, q5, h5, F5⟩ := flop .mul (by simp) (H.out.2) ((H.out.1.h 4 (by decide))) v4
  replace F5 : Hid _ := F5
  obtain ⟨s6, q6, h6, F6⟩ := flop .add (by simp) ((H.out.1.h 1 (by decide))) (F5.out) (v4.drewN (q5))
  replace F6 : Hid _ := F6
  have a_0 := B_a.out.cell (j := 0) rfl
  have a_1 := B_a.out.cell (j := 1) rfl
  have a_2 := B_a.out.cell (j := 2) rfl
  have a_3 := B_a.out.cell (j := 3) rfl
  have a_4 := B_a.out.cell (j := 4) rfl
  have a_5 := B_a.out.cell (j := 5) rfl
  have a_f := B_a.out.frozen
  have a_z := B_a.out.lt
  go_upto_region 3 with fail
  clear a_0 a_1 a_2 a_3 a_4 a_5 a_f a_z
  obtain ⟨v7, hv⟩ : ∃ X, X = ((v4.drewN (q5 + q6)).setCell ⟨w.heap.size, 1, none⟩ (.float .f64 s6)) := ⟨_, rfl⟩
  rw [← hv]
  clear h5 h6
  replace B_a : Hid (Blk v7 (w.heap.size) #[.float .f64 s3, .float .f64 s6, .float .f64 (a 2), .float .f64 (a 3), .float .f64 (a 4), .float .f64 (a 5)] 33) := by show Blk v7 (w.heap.size) _ _; rw [hv]; exact (Blk.set (Blk.drewN B_a.out _) _ _ rfl)
  replace B_r : Hid (Blk v7 (w.heap.size + 1) #[.float .f64 0, .float .f64 0, .float .f64 0, .float .f64 0, .float .f64 0, .float .f64 0] 33) := by show Blk v7 (w.heap.size + 1) _ _; rw [hv]; exact (Blk.setOther (Blk.drewN B_r.out _) (Ne.symm ne_a_r.out) _)
  replace HO : Hid (Below w.heap.size w v7) := by show Below w.heap.size w v7; rw [hv]; exact (Below.setCell (below_drewN HO.out _) low_a.out _)
  clear hv
  obtain ⟨s8, q8, h8, F8⟩ := flop .mul (by simp) (H.out.2) ((H.out.1.h 5 (by decide))) v7
  replace F8 : Hid _ := F8
  obtain ⟨s9, q9, h9, F9⟩ := flop .add (by simp) ((H.out.1.h 2 (by decide))) (F8.out) (v7.drewN (q8))
  replace F9 : Hid _ := F9
  have a_0 := B_a.out.cell (j := 0) rfl
  have a_1 := B_a.out.cell (j := 1) rfl
  have a_2 := B_a.out.cell (j := 2) rfl
  have a_3 := B_a.out.cell (j := 3) rfl
  have a_4 := B_a.out.cell (j := 4) rfl
  have a_5 := B_a.out.cell (j := 5) rfl
  have a_f := B_a.out.frozen
  have a_z := B_a.out.lt
  go_upto_region 4 with fail
  clear a_0 a_1 a_2 a_3 a_4 a_5 a_f a_z
  obtain ⟨v10, hv⟩ : ∃ X, X = ((v7.drewN (q8 + q9)).setCell ⟨w.heap.size, 2, none⟩ (.float .f64 s9)) := ⟨_, rfl⟩
  rw [← hv]
  clear h8 h9
  replace B_a : Hid (Blk v10 (w.heap.size) #[.float .f64 s3, .float .f64 s6, .float .f64 s9, .float .f64 (a 3), .float .f64 (a 4), .float .f64 (a 5)] 33) := by show Blk v10 (w.heap.size) _ _; rw [hv]; exact (Blk.set (Blk.drewN B_a.out _) _ _ rfl)
  replace B_r : Hid (Blk v10 (w.heap.size + 1) #[.float .f64 0, .float .f64 0, .float .f64 0, .float .f64 0, .float .f64 0, .float .f64 0] 33) := by show Blk v10 (w.heap.size + 1) _ _; rw [hv]; exact (Blk.setOther (Blk.drewN B_r.out _) (Ne.symm ne_a_r.out) _)
  replace HO : Hid (Below w.heap.size w v10) := by show Below w.heap.size w v10; rw [hv]; exact (Below.setCell (below_drewN HO.out _) low_a.out _)
  clear hv
  have a_0 := B_a.out.cell (j := 0) rfl
  have a_1 := B_a.out.cell (j := 1) rfl
  have a_2 := B_a.out.cell (j := 2) rfl
  have a_3 := B_a.out.cell (j := 3) rfl
  have a_4 := B_a.out.cell (j := 4) rfl
  have a_5 := B_a.out.cell (j := 5) rfl
  have a_f := B_a.out.frozen
  have a_z := B_a.out.lt
  have r_0 := B_r.out.cell (j := 0) rfl
  have r_1 := B_r.out.cell (j := 1) rfl
  have r_2 := B_r.out.cell (j := 2) rfl
  have r_3 := B_r.out.cell (j := 3) rfl
  have r_4 := B_r.out.cell (j := 4) rfl
  have r_5 := B_r.out.cell (j := 5) rfl
  have r_f := B_r.out.frozen
  have r_z := B_r.out.lt
  go_wp2
  refine bodyPost_ret (v := Rv (r6 (s3) (s6) (s9) (a 3) (a 4) (a 5))) (by simp [results, Try.results31, go_sem, a_0, a_1, a_2, a_3, a_4, a_5, a_f, a_z, r_0, r_1, r_2, r_3, r_4, r_5, r_f, r_z] <;> (repeat' (first | rfl | apply And.intro))) rfl ⟨_, rfl, rc_mk (F3.out) (F6.out) (F9.out) ((H.out.1.h 3 (by decide))) ((H.out.1.h 4 (by decide))) ((H.out.1.h 5 (by decide))), ?_⟩
  exact (Below.setCell (Below.setCell (Below.setCell (Below.setCell (Below.setCell (Below.setCell HO.out low_r.out _) low_r.out _) low_r.out _) low_r.out _) low_r.out _) low_r.out _)
set_option maxRecDepth 20000 in
set_option maxHeartbeats 3200000 in
theorem sAt_any {a : Nat → Nat} {A : Nat → Option Nat} {l : Nat} {L : Option Nat} (ha : Rc a A) (hl : Fc l L) (w : World) : RV 25 #[Rv a, .float .f64 l] w (posC A L) := by
  unfold RV
  have H : Hid (Rc a A ∧ Fc l L) := ⟨ha, hl⟩
  clear ha hl
  have hst := st64
  go_enter Try.func25, Try.ntmps25
  have HO : Hid (Below w.heap.size w w) := Below.refl _ _
  go_upto_region 1 with fail
  obtain ⟨v1, hv⟩ : ∃ X, X = ((w.alloc (.cells #[.float .f64 (a 0), .float .f64 (a 1), .float .f64 (a 2), .float .f64 (a 3), .float .f64 (a 4), .float .f64 (a 5)] 33)).alloc (.cells #[.float .f64 0, .float .f64 0, .float .f64 0, .float .f64 0, .float .f64 0, .float .f64 0] 33)) := ⟨_, rfl⟩
  rw [← hv]
  have ne_a_r : Hid (w.heap.size ≠ w.heap.size + 1) := by show (w.heap.size : Nat) ≠ w.heap.size + 1; omega
  have B_a : Hid (Blk v1 (w.heap.size) #[.float .f64 (a 0), .float .f64 (a 1), .float .f64 (a 2), .float .f64 (a 3), .float .f64 (a 4), .float .f64 (a 5)] 33) := by show Blk v1 (w.heap.size) _ _; rw [hv]; exact (Blk.alloc (Blk.new (by simp)) _)
  have low_a : Hid (w.heap.size ≤ w.heap.size) := by show w.heap.size ≤ w.heap.size; have := HO.out.size; omega
  have B_r : Hid (Blk v1 (w.heap.size + 1) #[.float .f64 0, .float .f64 0, .float .f64 0, .float .f64 0, .float .f64 0, .float .f64 0] 33) := by show Blk v1 (w.heap.size + 1) _ _; rw [hv]; exact (Blk.new (by simp))
  have low_r : Hid (w.heap.size ≤ w.heap.size + 1) := by show w.heap.size ≤ w.heap.size + 1; have := HO.out.size; omega
  replace HO : Hid (Below w.heap.size w v1) := by show Below w.heap.size w v1; rw [hv]; exact (below_new (below_new HO.out _) _)
  clear hv
  have a_0 := B_a.out.cell (j := 0) rfl
  have a_1 := B_a.out.cell (j := 1) rfl
  have a_2 := B_a.out.cell (j := 2) rfl
  have a_3 := B_a.out.cell (j := 3) rfl
  have a_4 := B_a.out.cell (j := 4) rfl
  have a_5 := B_a.out.cell (j := 5) rfl
  have a_f := B_a.out.frozen
  have a_z := B_a.out.lt
  go_upto_region 2 with fail
  clear a_0 a_1 a_2 a_3 a_4 a_5 a_f a_z
  obtain ⟨v2, hv⟩ : ∃ X, X = (v1.alloc (.cells #[.float .f64 (a 0), .float .f64 (a 1), .float .f64 (a 2), .float .f64 (a 3), .float .f64 (a 4), .float .f64 (a 5)] 33)) := ⟨_, rfl⟩
  rw [← hv]
  have ne_a_u : Hid (w.heap.size ≠ v1.heap.size) := Nat.ne_of_lt (Nat.lt_of_lt_of_le B_a.out.lt (by omega))
  have ne_r_u : Hid (w.heap.size + 1 ≠ v1.heap.size) := Nat.ne_of_lt (Nat.lt_of_lt_of_le B_r.out.lt (by omega))
  have B_u : Hid (Blk v2 (v1.heap.size) #[.float .f64 (a 0), .float .f64 (a 1), .float .f64 (a 2), .float .f64 (a 3), .float .f64 (a 4), .float .f64 (a 5)] 33) := by show Blk v2 (v1.heap.size) _ _; rw [hv]; exact (Blk.new (by simp))
  have low_u : Hid (w.heap.size ≤ v1.heap.size) := by show w.heap.size ≤ v1.heap.size; have := HO.out.size; omega
  replace B_a : Hid (Blk v2 (w.heap.size) #[.float .f64 (a 0), .float .f64 (a 1), .float .f64 (a 2), .float .f64 (a 3), .float .f64 (a 4), .float .f64 (a 5)] 33) := by show Blk v2 (w.heap.size) _ _; rw [hv]; exact (Blk.alloc B_a.out _)
  replace B_r : Hid (Blk v2 (w.heap.size + 1) #[.float .f64 0, .float .f64 0, .float .f64 0, .float .f64 0, .float .f64 0, .float .f64 0] 33) := by show Blk v2 (w.heap.size + 1) _ _; rw [hv]; exact (Blk.alloc B_r.out _)
  replace HO : Hid (Below w.heap.size w v2) := by show Below w.heap.size w v2; rw [hv]; exact (below_new HO.out _)
  clear hv
  obtain ⟨s3, q3, h3, F3⟩ := flop .mul (by simp) (H.out.2) ((H.out.1.h 3 (by decide))) v2
  replace F3 : Hid _ := F3
  obtain ⟨s4, q4, h4, F4⟩ := flop .add (by simp) ((H.out.1.h 0 (by decide))) (F3.out) (v2.drewN (q3))
  replace F4 : Hid _ := F4
  have a_0 := B_a.out.cell (j := 0) rfl
  have a_1 := B_a.out.cell (j := 1) rfl
  have a_2 := B_a.out.cell (j := 2) rfl
  have a_3 := B_a.out.cell (j := 3) rfl
  have a_4 := B_a.out.cell (j := 4) rfl
  have a_5 := B_a.out.cell (j := 5) rfl
  have a_f := B_a.out.frozen
  have a_z := B_a.out.lt
  have u_0 := B_u.out.cell (j := 0) rfl
  have u_1 := B_u.out.cell (j := 1) rfl
  have u_2 := B_u.out.cell (j := 2) rfl
  have u_3 := B_u.out.cell (j := 3) rfl
  have u_4 := B_u.out.cell (j := 4) rfl
  have u_5 := B_u.out.cell (j := 5) rfl
  have u_f := B_u.out.frozen
  have u_z := B_u.out.lt
  go_upto_region 3 with fail
  clear a_0 a_1 a_2 a_3 a_4 a_5 a_f a_z u_0 u_1 u_2 u_3 u_4 u_5 u_f u_z
  obtain ⟨v5, hv⟩ : ∃ X, X = ((v2.drewN (q3 + q4)).setCell ⟨v1.heap.size, 0, none⟩ (.float .f64 s4)) := ⟨_, rfl⟩
  rw [← hv]
  clear h3 h4
  replace B_a : Hid (Blk v5 (w.heap.size) #[.float .f64 (a 0), .float .f64 (a 1), .float .f64 (a 2), .float .f64 (a 3), .float .f64 (a 4), .float .f64 (a 5)] 33) := by show Blk v5 (w.heap.size) _ _; rw [hv]; exact (Blk.setOther (Blk.drewN B_a.out _) ne_a_u.out _)
  replace B_r : Hid (Blk v5 (w.heap.size + 1) #[.float .f64 0, .float .f64 0, .float .f64 0, .float .f64 0, .float .f64 0, .float .f64 0] 33) := by show Blk v5 (w.heap.size + 1) _ _; rw [hv]; exact (Blk.setOther (Blk.drewN B_r.out _) ne_r_u.out _)
  replace B_u : Hid (Blk v5 (v1.heap.size) #[.float .f64 s4, .float .f64 (a 1), .float .f64 (a 2), .float .f64 (a 3), .float .f64 (a 4), .float .f64 (a 5)] 33) := by show Blk v5 (v1.heap.size) _ _; rw [hv]; exact (Blk.set (Blk.drewN B_u.out _) _ _ rfl)
  replace HO : Hid (Below w.heap.size w v5) := by show Below w.heap.size w v5; rw [hv]; exact (Below.setCell (below_drewN HO.out _) low_u.out _)
  clear hv
  obtain ⟨s6, q6, h6, F6⟩ := flop .mul (by simp) (H.out.2) ((H.out.1.h 4 (by decide))) v5
  replace F6 : Hid _ := F6
  obtain ⟨s7, q7, h7, F7⟩ := flop .add (by simp) ((H.out.1.h 1 (by decide))) (F6.out) (v5.drewN (q6))
  replace F7 : Hid _ := F7
  have a_0 := B_a.out.cell (j := 0) rfl
  have a_1 := B_a.out.cell (j := 1) rfl
  have a_2 := B_a.out.cell (j := 2) rfl
  have a_3 := B_a.out.cell (j := 3) rfl
  have a_4 := B_a.out.cell (j := 4) rfl
  have a_5 := B_a.out.cell (j := 5) rfl
  have a_f := B_a.out.frozen
  have a_z := B_a.out.lt
  have u_0 := B_u.out.cell (j := 0) rfl
  have u_1 := B_u.out.cell (j := 1) rfl
  have u_2 := B_u.out.cell (j := 2) rfl
  have u_3 := B_u.out.cell (j := 3) rfl
  have u_4 := B_u.out.cell (j := 4) rfl
  have u_5 := B_u.out.cell (j := 5) rfl
  have u_f := B_u.out.frozen
  have u_z := B_u.out.lt
  go_upto_region 4 with fail
  clear a_0 a_1 a_2 a_3 a_4 a_5 a_f a_z u_0 u_1 u_2 u_3 u_4 u_5 u_f u_z
  obtain ⟨v8, hv⟩ : ∃ X, X = ((v5.drewN (q6 + q7)).setCell ⟨v1.heap.size, 1, none⟩ (.float .f64 s7)) := ⟨_, rfl⟩
  rw [← hv]
  clear h6 h7
  replace B_a : Hid (Blk v8 (w.heap.size) #[.float .f64 (a 0), .float .f64 (a 1), .float .f64 (a 2), .float .f64 (a 3), .float .f64 (a 4), .float .f64 (a 5)] 33) := by show Blk v8 (w.heap.size) _ _; rw [hv]; exact (Blk.setOther (Blk.drewN B_a.out _) ne_a_u.out _)
  replace B_r : Hid (Blk v8 (w.heap.size + 1) #[.float .f64 0, .float .f64 0, .float .f64 0, .float .f64 0, .float .f64 0, .float .f64 0] 33) := by show Blk v8 (w.heap.size + 1) _ _; rw [hv]; exact (Blk.setOther (Blk.drewN B_r.out _) ne_r_u.out _)
  replace B_u : Hid (Blk v8 (v1.heap.size) #[.float .f64 s4, .float .f64 s7, .float .f64 (a 2), .float .f64 (a 3), .float .f64 (a 4), .float .f64 (a 5)] 33) := by show Blk v8 (v1.heap.size) _ _; rw [hv]; exact (Blk.set (Blk.drewN B_u.out _) _ _ rfl)
  replace HO : Hid (Below w.heap.size w v8) := by show Below w.heap.size w v8; rw [hv]; exact (Below.setCell (below_drewN HO.out _) low_u.out _)
  clear hv
  obtain ⟨s9, q9, h9, F9⟩ := flop .mul (by simp) (H.out.2) ((H.out.1.h 5 (by decide))) v8
  replace F9 : Hid _ := F9
  obtain ⟨s10, q10, h10, F10⟩ := flop .add (by simp) ((H.out.1.h 2 (by decide))) (F9.out) (v8.drewN (q9))
  replace F10 : Hid _ := F10
  have a_0 := B_a.out.cell (j := 0) rfl
  have a_1 := B_a.out.cell (j := 1) rfl
  have a_2 := B_a.out.cell (j := 2) rfl
  have a_3 := B_a.out.cell (j := 3) rfl
  have a_4 := B_a.out.cell (j := 4) rfl
  have a_5 := B_a.out.cell (j := 5) rfl
  have a_f := B_a.out.frozen
  have a_z := B_a.out.lt
  have u_0 := B_u.out.cell (j := 0) rfl
  have u_1 := B_u.out.cell (j := 1) rfl
  have u_2 := B_u.out.cell (j := 2) rfl
  have u_3 := B_u.out.cell (j := 3) rfl
  have u_4 := B_u.out.cell (j := 4) rfl
  have u_5 := B_u.out.cell (j := 5) rfl
  have u_f := B_u.out.frozen
  have u_z := B_u.out.lt
  go_upto_region 5 with fail
  clear a_0 a_1 a_2 a_3 a_4 a_5 a_f a_z u_0 u_1 u_2 u_3 u_4 u_5 u_f u_z
  obtain ⟨v11, hv⟩ : ∃ X, X = ((v8.drewN (q9 + q10)).setCell ⟨v1.heap.size, 2, none⟩ (.float .f64 s10)) := ⟨_, rfl⟩
  rw [← hv]
  clear h9 h10
  replace B_a : Hid (Blk v11 (w.heap.size) #[.float .f64 (a 0), .float .f64 (a 1), .float .f64 (a 2), .float .f64 (a 3), .float .f64 (a 4), .float .f64 (a 5)] 33) := by show Blk v11 (w.heap.size) _ _; rw [hv]; exact (Blk.setOther (Blk.drewN B_a.out _) ne_a_u.out _)
  replace B_r : Hid (Blk v11 (w.heap.size + 1) #[.float .f64 0, .float .f64 0, .float .f64 0, .float .f64 0, .float .f64 0, .float .f64 0] 33) := by show Blk v11 (w.heap.size + 1) _ _; rw [hv]; exact (Blk.setOther (Blk.drewN B_r.out _) ne_r_u.out _)
  replace B_u : Hid (Blk v11 (v1.heap.size) #[.float .f64 s4, .float .f64 s7, .float .f64 s10, .float .f64 (a 3), .float .f64 (a 4), .float .f64 (a 5)] 33) := by show Blk v11 (v1.heap.size) _ _; rw [hv]; exact (Blk.set (Blk.drewN B_u.out _) _ _ rfl)
  replace HO : Hid (Below w.heap.size w v11) := by show Below w.heap.size w v11; rw [hv]; exact (Below.setCell (below_drewN HO.out _) low_u.out _)
  clear hv
  have u_0 := B_u.out.cell (j := 0) rfl
  have u_1 := B_u.out.cell (j := 1) rfl
  have u_2 := B_u.out.cell (j := 2) rfl
  have u_3 := B_u.out.cell (j := 3) rfl
  have u_4 := B_u.out.cell (j := 4) rfl
  have u_5 := B_u.out.cell (j := 5) rfl
  have u_f := B_u.out.frozen
  have u_z := B_u.out.lt
  have r_0 := B_r.out.cell (j := 0) rfl
  have r_1 := B_r.out.cell (j := 1) rfl
  have r_2 := B_r.out.cell (j := 2) rfl
  have r_3 := B_r.out.cell (j := 3) rfl
  have r_4 := B_r.out.cell (j := 4) rfl
  have r_5 := B_r.out.cell (j := 5) rfl
  have r_f := B_r.out.frozen
  have r_z := B_r.out.lt
  go_wp2
  refine bodyPost_ret (v := Rv (r6 (s4) (s7) (s10) (a 3) (a 4) (a 5))) (by simp [results, Try.results25, go_sem, u_0, u_1, u_2, u_3, u_4, u_5, u_f, u_z, r_0, r_1, r_2, r_3, r_4, r_5, r_f, r_z] <;> (repeat' (first | rfl | apply And.intro))) rfl ⟨_, rfl, rc_mk (F4.out) (F7.out) (F10.out) ((H.out.1.h 3 (by decide))) ((H.out.1.h 4 (by decide))) ((H.out.1.h 5 (by decide))), ?_⟩
  exact (Below.setCell (Below.setCell (Below.setCell (Below.setCell (Below.setCell (Below.setCell HO.out low_r.out _) low_r.out _) low_r.out _) low_r.out _) low_r.out _) low_r.out _)
set_option maxRecDepth 20000 in
set_option maxHeartbeats 3200000 in
theorem iNormal_any {p q : Nat} {P O : Option Nat} (hp : Fc p P) (hq : Fc q O) (w : World) : RV 35 #[.float .f64 p, .float .f64 q] w (nrmC P O) := by
  unfold RV
  have H : Hid (Fc p P ∧ Fc q O) := ⟨hp, hq⟩
  clear hp hq
  have hst := st64
  have hneg := neg_run
  go_enter Try.func35, Try.ntmps35
  have HO : Hid (Below w.heap.size w w) := Below.refl _ _
  go_upto_region 1 with fail
  obtain ⟨v1, hv⟩ : ∃ X, X = (w.alloc (.cells #[.float .f64 0, .float .f64 0, .float .f64 0, .float .f64 0, .float .f64 0, .float .f64 0] 33)) := ⟨_, rfl⟩
  rw [← hv]
  have B_r : Hid (Blk v1 (w.heap.size) #[.float .f64 0, .float .f64 0, .float .f64 0, .float .f64 0, .float .f64 0, .float .f64 0] 33) := by show Blk v1 (w.heap.size) _ _; rw [hv]; exact (Blk.new (by simp))
  have low_r : Hid (w.heap.size ≤ w.heap.size) := by show w.heap.size ≤ w.heap.size; have := HO.out.size; omega
  replace HO : Hid (Below w.heap.size w v1) := by show Below w.heap.size w v1; rw [hv]; exact (below_new HO.out _)
  clear hv
  go_wp2_with fail
  refine (iSquare_any (H.out.1) (H.out.2) _).mono ?_
  rintro e v2 ⟨c, rfl, hc, hb⟩
  replace B_r : Hid (Blk v2 (w.heap.size) #[.float .f64 0, .float .f64 0, .float .f64 0, .float .f64 0, .float .f64 0, .float .f64 0] 33) := by show Blk v2 (w.heap.size) _ _; exact Blk.old B_r.out hb
  replace HO : Hid (Below w.heap.size w v2) := box_step HO.out hb (Nat.le_refl _)
  clear hb
  replace hc : Hid _ := hc
  obtain ⟨s3, q3, h3, F3⟩ := flop .add (by simp) (hc.out) (fc_one) v2
  replace F3 : Hid _ := F3
  go_wp2_with fail
  refine (iSqrt_fc (F3.out) _).mono ?_
  rintro e v4 ⟨g, rfl, hg, hb⟩
  clear h3
  replace B_r : Hid (Blk v4 (w.heap.size) #[.float .f64 0, .float .f64 0, .float .f64 0, .float .f64 0, .float .f64 0, .float .f64 0] 33) := by show Blk v4 (w.heap.size) _ _; exact Blk.old (Blk.drewN B_r.out _) hb
  replace HO : Hid (Below w.heap.size w v4) := box_step (below_drewN HO.out _) hb (Nat.le_refl _)
  clear hb
  replace hg : Hid _ := hg
  go_upto_region 2 with fail
  obtain ⟨s5, q5, h5, F5⟩ := flop .quo (by simp) ((fc_neg (H.out.1))) (hg.out) v4
  replace F5 : Hid _ := F5
  obtain ⟨s6, q6, h6, F6⟩ := flop .quo (by simp) ((fc_neg (H.out.2))) (hg.out) (v4.drewN (q5))
  replace F6 : Hid _ := F6
  obtain ⟨s7, q7, h7, F7⟩ := flop .quo (by simp) (fc_one) (hg.out) (v4.drewN (q5 + q6))
  replace F7 : Hid _ := F7
  have r_0 := B_r.out.cell (j := 0) rfl
  have r_1 := B_r.out.cell (j := 1) rfl
  have r_2 := B_r.out.cell (j := 2) rfl
  have r_3 := B_r.out.cell (j := 3) rfl
  have r_4 := B_r.out.cell (j := 4) rfl
  have r_5 := B_r.out.cell (j := 5) rfl
  have r_f := B_r.out.frozen
  have r_z := B_r.out.lt
  go_wp2
  refine bodyPost_ret (v := Rv (r6 (0) (0) (0) (s5) (s6) (s7))) (by simp [results, Try.results35, go_sem, r_0, r_1, r_2, r_3, r_4, r_5, r_f, r_z] <;> (repeat' (first | rfl | apply And.intro))) rfl ⟨_, rfl, rc_mk (fc_zero) (fc_zero) (fc_zero) (F5.out) (F6.out) (F7.out), ?_⟩
  exact (Below.setCell (Below.setCell (Below.setCell (Below.setCell (Below.setCell (Below.setCell (below_drewN HO.out _) low_r.out _) low_r.out _) low_r.out _) low_r.out _) low_r.out _) low_r.out _)
set_option maxRecDepth 20000 in
set_option maxHeartbeats 3200000 in
theorem sNone_any (n : Int) (w : World) : Calls Try.prog 24 #[.int .i64 n] w fun e w' => e = .returned (Mv 4 0 0 (fun _ => 0) (fun _ => 0)) ∧ Below w.heap.size w w' := by
  have hst := st64
  go_enter Try.func24, Try.ntmps24
  have HO : Hid (Below w.heap.size w w) := Below.refl _ _
  go_upto_region 1 with fail
  obtain ⟨v1, hv⟩ : ∃ X, X = (w.alloc (.cells #[.int .i64 0, .int .i64 0, .float .f64 0, .float .f64 0, .float .f64 0, .float .f64 0, .float .f64 0, .float .f64 0, .float .f64 0, .float .f64 0, .float .f64 0, .float .f64 0, .float .f64 0, .float .f64 0, .float .f64 0] 43)) := ⟨_, rfl⟩
  rw [← hv]
  have B_r : Hid (Blk v1 (w.heap.size) #[.int .i64 0, .int .i64 0, .float .f64 0, .float .f64 0, .float .f64 0, .float .f64 0, .float .f64 0, .float .f64 0, .float .f64 0, .float .f64 0, .float .f64 0, .float .f64 0, .float .f64 0, .float .f64 0, .float .f64 0] 43) := by show Blk v1 (w.heap.size) _ _; rw [hv]; exact (Blk.new (by simp))
  have low_r : Hid (w.heap.size ≤ w.heap.size) := by show w.heap.size ≤ w.heap.size; have := HO.out.size; omega
  replace HO : Hid (Below w.heap.size w v1) := by show Below w.heap.size w v1; rw [hv]; exact (below_new HO.out _)
  clear hv
  have r_0 := B_r.out.cell (j := 0) rfl
  have r_1 := B_r.out.cell (j := 1) rfl
  have r_2 := B_r.out.cell (j := 2) rfl
  have r_3 := B_r.out.cell (j := 3) rfl
  have r_4 := B_r.out.cell (j := 4) rfl
  have r_5 := B_r.out.cell (j := 5) rfl
  have r_6 := B_r.out.cell (j := 6) rfl
  have r_7 := B_r.out.cell (j := 7) rfl
  have r_8 := B_r.out.cell (j := 8) rfl
  have r_9 := B_r.out.cell (j := 9) rfl
  have r_10 := B_r.out.cell (j := 10) rfl
  have r_11 := B_r.out.cell (j := 11) rfl
  have r_12 := B_r.out.cell (j := 12) rfl
  have r_13 := B_r.out.cell (j := 13) rfl
  have r_14 := B_r.out.cell (j := 14) rfl
  have r_f := B_r.out.frozen
  have r_z := B_r.out.lt
  go_wp2
  refine bodyPost_ret (v := Mv 4 0 0 (fun _ => 0) (fun _ => 0)) (by simp [results, Try.results24, go_sem, r_0, r_1, r_2, r_3, r_4, r_5, r_6, r_7, r_8, r_9, r_10, r_11, r_12, r_13, r_14, r_f, r_z] <;> (repeat' (first | rfl | apply And.intro))) rfl ⟨rfl, ?_⟩
  exact (Below.setCell (Below.setCell (Below.setCell (Below.setCell (Below.setCell (Below.setCell (Below.setCell (Below.setCell (Below.setCell (Below.setCell (Below.setCell (Below.setCell (Below.setCell (Below.setCell (Below.setCell HO.out low_r.out _) low_r.out _) low_r.out _) low_r.out _) low_r.out _) low_r.out _) low_r.out _) low_r.out _) low_r.out _) low_r.out _) low_r.out _) low_r.out _) low_r.out _) low_r.out _) low_r.out _)
end Go.Proofs.Ytbcidfmfkmeinaa
