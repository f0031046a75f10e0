/- A ray that is mirrored: both packages, one class of floats. -/
import Derived.Test.YtjibogknakaokaaRa
import Derived.Test.YtjibogknakaokaaBk
namespace Go.Proofs.Ytjibogknakaokaa
open Go.RowKit Fl
set_option linter.unusedVariables false
set_option linter.unusedSimpArgs false
set_option maxRecDepth 20000 in
set_option maxHeartbeats 3200000 in
theorem iBounce_any {a b : Nat → Nat} {A B : Nat → Option Nat} (ha : Rc a A) (hb : Rc b B) (w : World) : RV 41 #[Rv a, Rv b] w (bounceC A B) := by
  unfold RV
  have H : Hid (Rc a A ∧ Rc b B) := ⟨ha, hb⟩
  clear ha hb
  have hst := st64
  go_enter Try.func41, Try.ntmps41
  have HO : Hid (Below w.heap.size w w) := Below.refl _ _
  go_upto_region 1 with fail
  obtain ⟨v1, hv⟩ : ∃ X, X = (((w.alloc (.cells #[.float .f64 (a 0), .float .f64 (a 1), .float .f64 (a 2), .float .f64 (a 3), .float .f64 (a 4), .float .f64 (a 5)] 27)).alloc (.cells #[.float .f64 (b 0), .float .f64 (b 1), .float .f64 (b 2), .float .f64 (b 3), .float .f64 (b 4), .float .f64 (b 5)] 27)).alloc (.cells #[.float .f64 0, .float .f64 0, .float .f64 0, .float .f64 0, .float .f64 0, .float .f64 0] 27)) := ⟨_, rfl⟩
  rw [← hv]
  have ne_a_b : Hid (w.heap.size ≠ w.heap.size + 1) := by show (w.heap.size : Nat) ≠ w.heap.size + 1; omega
  have ne_a_r : Hid (w.heap.size ≠ w.heap.size + 1 + 1) := by show (w.heap.size : Nat) ≠ w.heap.size + 1 + 1; omega
  have ne_b_r : Hid (w.heap.size + 1 ≠ w.heap.size + 1 + 1) := by show (w.heap.size + 1 : Nat) ≠ w.heap.size + 1 + 1; omega
  have B_a : Hid (Blk v1 (w.heap.size) #[.float .f64 (a 0), .float .f64 (a 1), .float .f64 (a 2), .float .f64 (a 3), .float .f64 (a 4), .float .f64 (a 5)] 27) := by show Blk v1 (w.heap.size) _ _; rw [hv]; exact (Blk.alloc (Blk.alloc (Blk.new (by simp)) _) _)
  have low_a : Hid (w.heap.size ≤ w.heap.size) := by show w.heap.size ≤ w.heap.size; have := HO.out.size; omega
  have B_b : Hid (Blk v1 (w.heap.size + 1) #[.float .f64 (b 0), .float .f64 (b 1), .float .f64 (b 2), .float .f64 (b 3), .float .f64 (b 4), .float .f64 (b 5)] 27) := by show Blk v1 (w.heap.size + 1) _ _; rw [hv]; exact (Blk.alloc (Blk.new (by simp)) _)
  have low_b : Hid (w.heap.size ≤ w.heap.size + 1) := by show w.heap.size ≤ w.heap.size + 1; have := HO.out.size; omega
  have B_r : Hid (Blk v1 (w.heap.size + 1 + 1) #[.float .f64 0, .float .f64 0, .float .f64 0, .float .f64 0, .float .f64 0, .float .f64 0] 27) := by show Blk v1 (w.heap.size + 1 + 1) _ _; rw [hv]; exact (Blk.new (by simp))
  have low_r : Hid (w.heap.size ≤ w.heap.size + 1 + 1) := by show w.heap.size ≤ w.heap.size + 1 + 1; have := HO.out.size; omega
  replace HO : Hid (Below w.heap.size w v1) := by show Below w.heap.size w v1; rw [hv]; exact (below_new (below_new (below_new HO.out _) _) _)
  clear hv
  have a_0 := B_a.out.cell (j := 0) rfl
  have a_1 := B_a.out.cell (j := 1) rfl
  have a_2 := B_a.out.cell (j := 2) rfl
  have a_3 := B_a.out.cell (j := 3) rfl
  have a_4 := B_a.out.cell (j := 4) rfl
  have a_5 := B_a.out.cell (j := 5) rfl
  have a_f := B_a.out.frozen
  have a_z := B_a.out.lt
  have b_0 := B_b.out.cell (j := 0) rfl
  have b_1 := B_b.out.cell (j := 1) rfl
  have b_2 := B_b.out.cell (j := 2) rfl
  have b_3 := B_b.out.cell (j := 3) rfl
  have b_4 := B_b.out.cell (j := 4) rfl
  have b_5 := B_b.out.cell (j := 5) rfl
  have b_f := B_b.out.frozen
  have b_z := B_b.out.lt
  go_wp2_with fail
  refine (iAlong_any H.out.1 H.out.2 _).mono ?_
  rintro e v2 ⟨c, rfl, hc, hb⟩
  clear a_0 a_1 a_2 a_3 a_4 a_5 a_f a_z b_0 b_1 b_2 b_3 b_4 b_5 b_f b_z
  replace B_a : Hid (Blk v2 (w.heap.size) #[.float .f64 (a 0), .float .f64 (a 1), .float .f64 (a 2), .float .f64 (a 3), .float .f64 (a 4), .float .f64 (a 5)] 27) := by show Blk v2 (w.heap.size) _ _; exact Blk.old B_a.out hb
  replace B_b : Hid (Blk v2 (w.heap.size + 1) #[.float .f64 (b 0), .float .f64 (b 1), .float .f64 (b 2), .float .f64 (b 3), .float .f64 (b 4), .float .f64 (b 5)] 27) := by show Blk v2 (w.heap.size + 1) _ _; exact Blk.old B_b.out hb
  replace B_r : Hid (Blk v2 (w.heap.size + 1 + 1) #[.float .f64 0, .float .f64 0, .float .f64 0, .float .f64 0, .float .f64 0, .float .f64 0] 27) := by show Blk v2 (w.heap.size + 1 + 1) _ _; exact Blk.old B_r.out hb
  replace HO : Hid (Below w.heap.size w v2) := box_step HO.out hb (Nat.le_refl _)
  clear hb
  replace hc : Hid _ := hc
  obtain ⟨s3, q3, h3, F3⟩ := flop .add (by simp) (hc.out) (hc.out) v2
  replace F3 : Hid _ := F3
  go_upto_region 3 with fail
  obtain ⟨v4, hv⟩ : ∃ X, X = (v2.drewN (q3)) := ⟨_, rfl⟩
  rw [← hv]
  clear h3
  replace B_a : Hid (Blk v4 (w.heap.size) #[.float .f64 (a 0), .float .f64 (a 1), .float .f64 (a 2), .float .f64 (a 3), .float .f64 (a 4), .float .f64 (a 5)] 27) := by show Blk v4 (w.heap.size) _ _; rw [hv]; exact (Blk.drewN B_a.out _)
  replace B_b : Hid (Blk v4 (w.heap.size + 1) #[.float .f64 (b 0), .float .f64 (b 1), .float .f64 (b 2), .float .f64 (b 3), .float .f64 (b 4), .float .f64 (b 5)] 27) := by show Blk v4 (w.heap.size + 1) _ _; rw [hv]; exact (Blk.drewN B_b.out _)
  replace B_r : Hid (Blk v4 (w.heap.size + 1 + 1) #[.float .f64 0, .float .f64 0, .float .f64 0, .float .f64 0, .float .f64 0, .float .f64 0] 27) := by show Blk v4 (w.heap.size + 1 + 1) _ _; rw [hv]; exact (Blk.drewN B_r.out _)
  replace HO : Hid (Below w.heap.size w v4) := by show Below w.heap.size w v4; rw [hv]; exact (below_drewN HO.out _)
  clear hv
  obtain ⟨s5, q5, h5, F5⟩ := flop .mul (by simp) (F3.out) (H.out.2.h 3 (by decide)) v4
  replace F5 : Hid _ := F5
  obtain ⟨s6, q6, h6, F6⟩ := flop .sub (by simp) (H.out.1.h 3 (by decide)) (F5.out) (v4.drewN (q5))
  replace F6 : Hid _ := F6
  have a_0 := B_a.out.cell (j := 0) rfl
  have a_1 := B_a.out.cell (j := 1) rfl
  have a_2 := B_a.out.cell (j := 2) rfl
  have a_3 := B_a.out.cell (j := 3) rfl
  have a_4 := B_a.out.cell (j := 4) rfl
  have a_5 := B_a.out.cell (j := 5) rfl
  have a_f := B_a.out.frozen
  have a_z := B_a.out.lt
  have b_0 := B_b.out.cell (j := 0) rfl
  have b_1 := B_b.out.cell (j := 1) rfl
  have b_2 := B_b.out.cell (j := 2) rfl
  have b_3 := B_b.out.cell (j := 3) rfl
  have b_4 := B_b.out.cell (j := 4) rfl
  have b_5 := B_b.out.cell (j := 5) rfl
  have b_f := B_b.out.frozen
  have b_z := B_b.out.lt
  go_upto_region 4 with fail
  clear a_0 a_1 a_2 a_3 a_4 a_5 a_f a_z b_0 b_1 b_2 b_3 b_4 b_5 b_f b_z
  obtain ⟨v7, hv⟩ : ∃ X, X = ((v4.drewN (q5 + q6)).setCell ⟨w.heap.size, 3, none⟩ (.float .f64 s6)) := ⟨_, rfl⟩
  rw [← hv]
  clear h5 h6
  replace B_a : Hid (Blk v7 (w.heap.size) #[.float .f64 (a 0), .float .f64 (a 1), .float .f64 (a 2), .float .f64 s6, .float .f64 (a 4), .float .f64 (a 5)] 27) := by show Blk v7 (w.heap.size) _ _; rw [hv]; exact (Blk.set (Blk.drewN B_a.out _) _ _ rfl)
  replace B_b : Hid (Blk v7 (w.heap.size + 1) #[.float .f64 (b 0), .float .f64 (b 1), .float .f64 (b 2), .float .f64 (b 3), .float .f64 (b 4), .float .f64 (b 5)] 27) := by show Blk v7 (w.heap.size + 1) _ _; rw [hv]; exact (Blk.setOther (Blk.drewN B_b.out _) (Ne.symm ne_a_b.out) _)
  replace B_r : Hid (Blk v7 (w.heap.size + 1 + 1) #[.float .f64 0, .float .f64 0, .float .f64 0, .float .f64 0, .float .f64 0, .float .f64 0] 27) := by show Blk v7 (w.heap.size + 1 + 1) _ _; rw [hv]; exact (Blk.setOther (Blk.drewN B_r.out _) (Ne.symm ne_a_r.out) _)
  replace HO : Hid (Below w.heap.size w v7) := by show Below w.heap.size w v7; rw [hv]; exact (Below.setCell (below_drewN HO.out _) low_a.out _)
  clear hv
  obtain ⟨s8, q8, h8, F8⟩ := flop .mul (by simp) (F3.out) (H.out.2.h 4 (by decide)) v7
  replace F8 : Hid _ := F8
  obtain ⟨s9, q9, h9, F9⟩ := flop .sub (by simp) (H.out.1.h 4 (by decide)) (F8.out) (v7.drewN (q8))
  replace F9 : Hid _ := F9
  have a_0 := B_a.out.cell (j := 0) rfl
  have a_1 := B_a.out.cell (j := 1) rfl
  have a_2 := B_a.out.cell (j := 2) rfl
  have a_3 := B_a.out.cell (j := 3) rfl
  have a_4 := B_a.out.cell (j := 4) rfl
  have a_5 := B_a.out.cell (j := 5) rfl
  have a_f := B_a.out.frozen
  have a_z := B_a.out.lt
  have b_0 := B_b.out.cell (j := 0) rfl
  have b_1 := B_b.out.cell (j := 1) rfl
  have b_2 := B_b.out.cell (j := 2) rfl
  have b_3 := B_b.out.cell (j := 3) rfl
  have b_4 := B_b.out.cell (j := 4) rfl
  have b_5 := B_b.out.cell (j := 5) rfl
  have b_f := B_b.out.frozen
  have b_z := B_b.out.lt
  go_upto_region 5 with fail
  clear a_0 a_1 a_2 a_3 a_4 a_5 a_f a_z b_0 b_1 b_2 b_3 b_4 b_5 b_f b_z
  obtain ⟨v10, hv⟩ : ∃ X, X = ((v7.drewN (q8 + q9)).setCell ⟨w.heap.size, 4, none⟩ (.float .f64 s9)) := ⟨_, rfl⟩
  rw [← hv]
  clear h8 h9
  replace B_a : Hid (Blk v10 (w.heap.size) #[.float .f64 (a 0), .float .f64 (a 1), .float .f64 (a 2), .float .f64 s6, .float .f64 s9, .float .f64 (a 5)] 27) := by show Blk v10 (w.heap.size) _ _; rw [hv]; exact (Blk.set (Blk.drewN B_a.out _) _ _ rfl)
  replace B_b : Hid (Blk v10 (w.heap.size + 1) #[.float .f64 (b 0), .float .f64 (b 1), .float .f64 (b 2), .float .f64 (b 3), .float .f64 (b 4), .float .f64 (b 5)] 27) := by show Blk v10 (w.heap.size + 1) _ _; rw [hv]; exact (Blk.setOther (Blk.drewN B_b.out _) (Ne.symm ne_a_b.out) _)
  replace B_r : Hid (Blk v10 (w.heap.size + 1 + 1) #[.float .f64 0, .float .f64 0, .float .f64 0, .float .f64 0, .float .f64 0, .float .f64 0] 27) := by show Blk v10 (w.heap.size + 1 + 1) _ _; rw [hv]; exact (Blk.setOther (Blk.drewN B_r.out _) (Ne.symm ne_a_r.out) _)
  replace HO : Hid (Below w.heap.size w v10) := by show Below w.heap.size w v10; rw [hv]; exact (Below.setCell (below_drewN HO.out _) low_a.out _)
  clear hv
  obtain ⟨s11, q11, h11, F11⟩ := flop .mul (by simp) (F3.out) (H.out.2.h 5 (by decide)) v10
  replace F11 : Hid _ := F11
  obtain ⟨s12, q12, h12, F12⟩ := flop .sub (by simp) (H.out.1.h 5 (by decide)) (F11.out) (v10.drewN (q11))
  replace F12 : Hid _ := F12
  have a_0 := B_a.out.cell (j := 0) rfl
  have a_1 := B_a.out.cell (j := 1) rfl
  have a_2 := B_a.out.cell (j := 2) rfl
  have a_3 := B_a.out.cell (j := 3) rfl
  have a_4 := B_a.out.cell (j := 4) rfl
  have a_5 := B_a.out.cell (j := 5) rfl
  have a_f := B_a.out.frozen
  have a_z := B_a.out.lt
  have b_0 := B_b.out.cell (j := 0) rfl
  have b_1 := B_b.out.cell (j := 1) rfl
  have b_2 := B_b.out.cell (j := 2) rfl
  have b_3 := B_b.out.cell (j := 3) rfl
  have b_4 := B_b.out.cell (j := 4) rfl
  have b_5 := B_b.out.cell (j := 5) rfl
  have b_f := B_b.out.frozen
  have b_z := B_b.out.lt
  go_upto_region 6 with fail
  clear a_0 a_1 a_2 a_3 a_4 a_5 a_f a_z b_0 b_1 b_2 b_3 b_4 b_5 b_f b_z
  obtain ⟨v13, hv⟩ : ∃ X, X = ((v10.drewN (q11 + q12)).setCell ⟨w.heap.size, 5, none⟩ (.float .f64 s12)) := ⟨_, rfl⟩
  rw [← hv]
  clear h11 h12
  replace B_a : Hid (Blk v13 (w.heap.size) #[.float .f64 (a 0), .float .f64 (a 1), .float .f64 (a 2), .float .f64 s6, .float .f64 s9, .float .f64 s12] 27) := by show Blk v13 (w.heap.size) _ _; rw [hv]; exact (Blk.set (Blk.drewN B_a.out _) _ _ rfl)
  replace B_b : Hid (Blk v13 (w.heap.size + 1) #[.float .f64 (b 0), .float .f64 (b 1), .float .f64 (b 2), .float .f64 (b 3), .float .f64 (b 4), .float .f64 (b 5)] 27) := by show Blk v13 (w.heap.size + 1) _ _; rw [hv]; exact (Blk.setOther (Blk.drewN B_b.out _) (Ne.symm ne_a_b.out) _)
  replace B_r : Hid (Blk v13 (w.heap.size + 1 + 1) #[.float .f64 0, .float .f64 0, .float .f64 0, .float .f64 0, .float .f64 0, .float .f64 0] 27) := by show Blk v13 (w.heap.size + 1 + 1) _ _; rw [hv]; exact (Blk.setOther (Blk.drewN B_r.out _) (Ne.symm ne_a_r.out) _)
  replace HO : Hid (Below w.heap.size w v13) := by show Below w.heap.size w v13; rw [hv]; exact (Below.setCell (below_drewN HO.out _) low_a.out _)
  clear hv
  have a_0 := B_a.out.cell (j := 0) rfl
  have a_1 := B_a.out.cell (j := 1) rfl
  have a_2 := B_a.out.cell (j := 2) rfl
  have a_3 := B_a.out.cell (j := 3) rfl
  have a_4 := B_a.out.cell (j := 4) rfl
  have a_5 := B_a.out.cell (j := 5) rfl
  have a_f := B_a.out.frozen
  have a_z := B_a.out.lt
  have r_0 := B_r.out.cell (j := 0) rfl
  have r_1 := B_r.out.cell (j := 1) rfl
  have r_2 := B_r.out.cell (j := 2) rfl
  have r_3 := B_r.out.cell (j := 3) rfl
  have r_4 := B_r.out.cell (j := 4) rfl
  have r_5 := B_r.out.cell (j := 5) rfl
  have r_f := B_r.out.frozen
  have r_z := B_r.out.lt
  go_wp2
  refine bodyPost_ret (v := Rv (r6 (a 0) (a 1) (a 2) (s6) (s9) (s12))) (by simp [results, Try.results41, go_sem, a_0, a_1, a_2, a_3, a_4, a_5, a_f, a_z, r_0, r_1, r_2, r_3, r_4, r_5, r_f, r_z] <;> (repeat' (first | rfl | apply And.intro))) rfl ⟨_, rfl, rc_mk (H.out.1.h 0 (by decide)) (H.out.1.h 1 (by decide)) (H.out.1.h 2 (by decide)) F6.out F9.out F12.out, ?_⟩
  exact (Below.setCell (Below.setCell (Below.setCell (Below.setCell (Below.setCell (Below.setCell HO.out low_r.out _) low_r.out _) low_r.out _) low_r.out _) low_r.out _) low_r.out _)
set_option maxRecDepth 20000 in
set_option maxHeartbeats 3200000 in
theorem sBounce_any {a b : Nat → Nat} {A B : Nat → Option Nat} (ha : Rc a A) (hb : Rc b B) (w : World) : RV 40 #[Rv a, Rv b] w (bounceC A B) := by
  unfold RV
  have H : Hid (Rc a A ∧ Rc b B) := ⟨ha, hb⟩
  clear ha hb
  have hst := st64
  go_enter Try.func40, Try.ntmps40
  have HO : Hid (Below w.heap.size w w) := Below.refl _ _
  go_upto_region 1 with fail
  obtain ⟨v1, hv⟩ : ∃ X, X = (((w.alloc (.cells #[.float .f64 (a 0), .float .f64 (a 1), .float .f64 (a 2), .float .f64 (a 3), .float .f64 (a 4), .float .f64 (a 5)] 27)).alloc (.cells #[.float .f64 (b 0), .float .f64 (b 1), .float .f64 (b 2), .float .f64 (b 3), .float .f64 (b 4), .float .f64 (b 5)] 27)).alloc (.cells #[.float .f64 0, .float .f64 0, .float .f64 0, .float .f64 0, .float .f64 0, .float .f64 0] 27)) := ⟨_, rfl⟩
  rw [← hv]
  have ne_a_b : Hid (w.heap.size ≠ w.heap.size + 1) := by show (w.heap.size : Nat) ≠ w.heap.size + 1; omega
  have ne_a_r : Hid (w.heap.size ≠ w.heap.size + 1 + 1) := by show (w.heap.size : Nat) ≠ w.heap.size + 1 + 1; omega
  have ne_b_r : Hid (w.heap.size + 1 ≠ w.heap.size + 1 + 1) := by show (w.heap.size + 1 : Nat) ≠ w.heap.size + 1 + 1; omega
  have B_a : Hid (Blk v1 (w.heap.size) #[.float .f64 (a 0), .float .f64 (a 1), .float .f64 (a 2), .float .f64 (a 3), .float .f64 (a 4), .float .f64 (a 5)] 27) := by show Blk v1 (w.heap.size) _ _; rw [hv]; exact (Blk.alloc (Blk.alloc (Blk.new (by simp)) _) _)
  have low_a : Hid (w.heap.size ≤ w.heap.size) := by show w.heap.size ≤ w.heap.size; have := HO.out.size; omega
  have B_b : Hid (Blk v1 (w.heap.size + 1) #[.float .f64 (b 0), .float .f64 (b 1), .float .f64 (b 2), .float .f64 (b 3), .float .f64 (b 4), .float .f64 (b 5)] 27) := by show Blk v1 (w.heap.size + 1) _ _; rw [hv]; exact (Blk.alloc (Blk.new (by simp)) _)
  have low_b : Hid (w.heap.size ≤ w.heap.size + 1) := by show w.heap.size ≤ w.heap.size + 1; have := HO.out.size; omega
  have B_r : Hid (Blk v1 (w.heap.size + 1 + 1) #[.float .f64 0, .float .f64 0, .float .f64 0, .float .f64 0, .float .f64 0, .float .f64 0] 27) := by show Blk v1 (w.heap.size + 1 + 1) _ _; rw [hv]; exact (Blk.new (by simp))
  have low_r : Hid (w.heap.size ≤ w.heap.size + 1 + 1) := by show w.heap.size ≤ w.heap.size + 1 + 1; have := HO.out.size; omega
  replace HO : Hid (Below w.heap.size w v1) := by show Below w.heap.size w v1; rw [hv]; exact (below_new (below_new (below_new HO.out _) _) _)
  clear hv
  have a_0 := B_a.out.cell (j := 0) rfl
  have a_1 := B_a.out.cell (j := 1) rfl
  have a_2 := B_a.out.cell (j := 2) rfl
  have a_3 := B_a.out.cell (j := 3) rfl
  have a_4 := B_a.out.cell (j := 4) rfl
  have a_5 := B_a.out.cell (j := 5) rfl
  have a_f := B_a.out.frozen
  have a_z := B_a.out.lt
  have b_0 := B_b.out.cell (j := 0) rfl
  have b_1 := B_b.out.cell (j := 1) rfl
  have b_2 := B_b.out.cell (j := 2) rfl
  have b_3 := B_b.out.cell (j := 3) rfl
  have b_4 := B_b.out.cell (j := 4) rfl
  have b_5 := B_b.out.cell (j := 5) rfl
  have b_f := B_b.out.frozen
  have b_z := B_b.out.lt
  go_wp2_with fail
  refine (sAlong_any H.out.1 H.out.2 _).mono ?_
  rintro e v2 ⟨c, rfl, hc, hb⟩
  clear a_0 a_1 a_2 a_3 a_4 a_5 a_f a_z b_0 b_1 b_2 b_3 b_4 b_5 b_f b_z
  replace B_a : Hid (Blk v2 (w.heap.size) #[.float .f64 (a 0), .float .f64 (a 1), .float .f64 (a 2), .float .f64 (a 3), .float .f64 (a 4), .float .f64 (a 5)] 27) := by show Blk v2 (w.heap.size) _ _; exact Blk.old B_a.out hb
  replace B_b : Hid (Blk v2 (w.heap.size + 1) #[.float .f64 (b 0), .float .f64 (b 1), .float .f64 (b 2), .float .f64 (b 3), .float .f64 (b 4), .float .f64 (b 5)] 27) := by show Blk v2 (w.heap.size + 1) _ _; exact Blk.old B_b.out hb
  replace B_r : Hid (Blk v2 (w.heap.size + 1 + 1) #[.float .f64 0, .float .f64 0, .float .f64 0, .float .f64 0, .float .f64 0, .float .f64 0] 27) := by show Blk v2 (w.heap.size + 1 + 1) _ _; exact Blk.old B_r.out hb
  replace HO : Hid (Below w.heap.size w v2) := box_step HO.out hb (Nat.le_refl _)
  clear hb
  replace hc : Hid _ := hc
  obtain ⟨s3, q3, h3, F3⟩ := flop .add (by simp) (hc.out) (hc.out) v2
  replace F3 : Hid _ := F3
  go_upto_region 3 with fail
  obtain ⟨v4, hv⟩ : ∃ X, X = (v2.drewN (q3)) := ⟨_, rfl⟩
  rw [← hv]
  clear h3
  replace B_a : Hid (Blk v4 (w.heap.size) #[.float .f64 (a 0), .float .f64 (a 1), .float .f64 (a 2), .float .f64 (a 3), .float .f64 (a 4), .float .f64 (a 5)] 27) := by show Blk v4 (w.heap.size) _ _; rw [hv]; exact (Blk.drewN B_a.out _)
  replace B_b : Hid (Blk v4 (w.heap.size + 1) #[.float .f64 (b 0), .float .f64 (b 1), .float .f64 (b 2), .float .f64 (b 3), .float .f64 (b 4), .float .f64 (b 5)] 27) := by show Blk v4 (w.heap.size + 1) _ _; rw [hv]; exact (Blk.drewN B_b.out _)
  replace B_r : Hid (Blk v4 (w.heap.size + 1 + 1) #[.float .f64 0, .float .f64 0, .float .f64 0, .float .f64 0, .float .f64 0, .float .f64 0] 27) := by show Blk v4 (w.heap.size + 1 + 1) _ _; rw [hv]; exact (Blk.drewN B_r.out _)
  replace HO : Hid (Below w.heap.size w v4) := by show Below w.heap.size w v4; rw [hv]; exact (below_drewN HO.out _)
  clear hv
  have a_0 := B_a.out.cell (j := 0) rfl
  have a_1 := B_a.out.cell (j := 1) rfl
  have a_2 := B_a.out.cell (j := 2) rfl
  have a_3 := B_a.out.cell (j := 3) rfl
  have a_4 := B_a.out.cell (j := 4) rfl
  have a_5 := B_a.out.cell (j := 5) rfl
  have a_f := B_a.out.frozen
  have a_z := B_a.out.lt
  go_upto_region 4 with fail
  clear a_0 a_1 a_2 a_3 a_4 a_5 a_f a_z
  obtain ⟨v5, hv⟩ : ∃ X, X = (v4.alloc (.cells #[.float .f64 (a 0), .float .f64 (a 1), .float .f64 (a 2), .float .f64 (a 3), .float .f64 (a 4), .float .f64 (a 5)] 27)) := ⟨_, rfl⟩
  rw [← hv]
  have ne_a_u : Hid (w.heap.size ≠ v4.heap.size) := Nat.ne_of_lt (Nat.lt_of_lt_of_le B_a.out.lt (by omega))
  have ne_b_u : Hid (w.heap.size + 1 ≠ v4.heap.size) := Nat.ne_of_lt (Nat.lt_of_lt_of_le B_b.out.lt (by omega))
  have ne_r_u : Hid (w.heap.size + 1 + 1 ≠ v4.heap.size) := Nat.ne_of_lt (Nat.lt_of_lt_of_le B_r.out.lt (by omega))
  have B_u : Hid (Blk v5 (v4.heap.size) #[.float .f64 (a 0), .float .f64 (a 1), .float .f64 (a 2), .float .f64 (a 3), .float .f64 (a 4), .float .f64 (a 5)] 27) := by show Blk v5 (v4.heap.size) _ _; rw [hv]; exact (Blk.new (by simp))
  have low_u : Hid (w.heap.size ≤ v4.heap.size) := by show w.heap.size ≤ v4.heap.size; have := HO.out.size; omega
  replace B_a : Hid (Blk v5 (w.heap.size) #[.float .f64 (a 0), .float .f64 (a 1), .float .f64 (a 2), .float .f64 (a 3), .float .f64 (a 4), .float .f64 (a 5)] 27) := by show Blk v5 (w.heap.size) _ _; rw [hv]; exact (Blk.alloc B_a.out _)
  replace B_b : Hid (Blk v5 (w.heap.size + 1) #[.float .f64 (b 0), .float .f64 (b 1), .float .f64 (b 2), .float .f64 (b 3), .float .f64 (b 4), .float .f64 (b 5)] 27) := by show Blk v5 (w.heap.size + 1) _ _; rw [hv]; exact (Blk.alloc B_b.out _)
  replace B_r : Hid (Blk v5 (w.heap.size + 1 + 1) #[.float .f64 0, .float .f64 0, .float .f64 0, .float .f64 0, .float .f64 0, .float .f64 0] 27) := by show Blk v5 (w.heap.size + 1 + 1) _ _; rw [hv]; exact (Blk.alloc B_r.out _)
  replace HO : Hid (Below w.heap.size w v5) := by show Below w.heap.size w v5; rw [hv]; exact (below_new HO.out _)
  clear hv
  obtain ⟨s6, q6, h6, F6⟩ := flop .mul (by simp) (F3.out) (H.out.2.h 3 (by decide)) v5
  replace F6 : Hid _ := F6
  obtain ⟨s7, q7, h7, F7⟩ := flop .sub (by simp) (H.out.1.h 3 (by decide)) (F6.out) (v5.drewN (q6))
  replace F7 : Hid _ := F7
  have a_0 := B_a.out.cell (j := 0) rfl
  have a_1 := B_a.out.cell (j := 1) rfl
  have a_2 := B_a.out.cell (j := 2) rfl
  have a_3 := B_a.out.cell (j := 3) rfl
  have a_4 := B_a.out.cell (j := 4) rfl
  have a_5 := B_a.out.cell (j := 5) rfl
  have a_f := B_a.out.frozen
  have a_z := B_a.out.lt
  have b_0 := B_b.out.cell (j := 0) rfl
  have b_1 := B_b.out.cell (j := 1) rfl
  have b_2 := B_b.out.cell (j := 2) rfl
  have b_3 := B_b.out.cell (j := 3) rfl
  have b_4 := B_b.out.cell (j := 4) rfl
  have b_5 := B_b.out.cell (j := 5) rfl
  have b_f := B_b.out.frozen
  have b_z := B_b.out.lt
  have u_0 := B_u.out.cell (j := 0) rfl
  have u_1 := B_u.out.cell (j := 1) rfl
  have u_2 := B_u.out.cell (j := 2) rfl
  have u_3 := B_u.out.cell (j := 3) rfl
  have u_4 := B_u.out.cell (j := 4) rfl
  have u_5 := B_u.out.cell (j := 5) rfl
  have u_f := B_u.out.frozen
  have u_z := B_u.out.lt
  go_upto_region 5 with fail
  clear a_0 a_1 a_2 a_3 a_4 a_5 a_f a_z b_0 b_1 b_2 b_3 b_4 b_5 b_f b_z u_0 u_1 u_2 u_3 u_4 u_5 u_f u_z
  obtain ⟨v8, hv⟩ : ∃ X, X = ((v5.drewN (q6 + q7)).setCell ⟨v4.heap.size, 3, none⟩ (.float .f64 s7)) := ⟨_, rfl⟩
  rw [← hv]
  clear h6 h7
  replace B_a : Hid (Blk v8 (w.heap.size) #[.float .f64 (a 0), .float .f64 (a 1), .float .f64 (a 2), .float .f64 (a 3), .float .f64 (a 4), .float .f64 (a 5)] 27) := by show Blk v8 (w.heap.size) _ _; rw [hv]; exact (Blk.setOther (Blk.drewN B_a.out _) ne_a_u.out _)
  replace B_b : Hid (Blk v8 (w.heap.size + 1) #[.float .f64 (b 0), .float .f64 (b 1), .float .f64 (b 2), .float .f64 (b 3), .float .f64 (b 4), .float .f64 (b 5)] 27) := by show Blk v8 (w.heap.size + 1) _ _; rw [hv]; exact (Blk.setOther (Blk.drewN B_b.out _) ne_b_u.out _)
  replace B_r : Hid (Blk v8 (w.heap.size + 1 + 1) #[.float .f64 0, .float .f64 0, .float .f64 0, .float .f64 0, .float .f64 0, .float .f64 0] 27) := by show Blk v8 (w.heap.size + 1 + 1) _ _; rw [hv]; exact (Blk.setOther (Blk.drewN B_r.out _) ne_r_u.out _)
  replace B_u : Hid (Blk v8 (v4.heap.size) #[.float .f64 (a 0), .float .f64 (a 1), .float .f64 (a 2), .float .f64 s7, .float .f64 (a 4), .float .f64 (a 5)] 27) := by show Blk v8 (v4.heap.size) _ _; rw [hv]; exact (Blk.set (Blk.drewN B_u.out _) _ _ rfl)
  replace HO : Hid (Below w.heap.size w v8) := by show Below w.heap.size w v8; rw [hv]; exact (Below.setCell (below_drewN HO.out _) low_u.out _)
  clear hv
  obtain ⟨s9, q9, h9, F9⟩ := flop .mul (by simp) (F3.out) (H.out.2.h 4 (by decide)) v8
  replace F9 : Hid _ := F9
  obtain ⟨s10, q10, h10, F10⟩ := flop .sub (by simp) (H.out.1.h 4 (by decide)) (F9.out) (v8.drewN (q9))
  replace F10 : Hid _ := F10
  have a_0 := B_a.out.cell (j := 0) rfl
  have a_1 := B_a.out.cell (j := 1) rfl
  have a_2 := B_a.out.cell (j := 2) rfl
  have a_3 := B_a.out.cell (j := 3) rfl
  have a_4 := B_a.out.cell (j := 4) rfl
  have a_5 := B_a.out.cell (j := 5) rfl
  have a_f := B_a.out.frozen
  have a_z := B_a.out.lt
  have b_0 := B_b.out.cell (j := 0) rfl
  have b_1 := B_b.out.cell (j := 1) rfl
  have b_2 := B_b.out.cell (j := 2) rfl
  have b_3 := B_b.out.cell (j := 3) rfl
  have b_4 := B_b.out.cell (j := 4) rfl
  have b_5 := B_b.out.cell (j := 5) rfl
  have b_f := B_b.out.frozen
  have b_z := B_b.out.lt
  have u_0 := B_u.out.cell (j := 0) rfl
  have u_1 := B_u.out.cell (j := 1) rfl
  have u_2 := B_u.out.cell (j := 2) rfl
  have u_3 := B_u.out.cell (j := 3) rfl
  have u_4 := B_u.out.cell (j := 4) rfl
  have u_5 := B_u.out.cell (j := 5) rfl
  have u_f := B_u.out.frozen
  have u_z := B_u.out.lt
  go_upto_region 6 with fail
  clear a_0 a_1 a_2 a_3 a_4 a_5 a_f a_z b_0 b_1 b_2 b_3 b_4 b_5 b_f b_z u_0 u_1 u_2 u_3 u_4 u_5 u_f u_z
  obtain ⟨v11, hv⟩ : ∃ X, X = ((v8.drewN (q9 + q10)).setCell ⟨v4.heap.size, 4, none⟩ (.float .f64 s10)) := ⟨_, rfl⟩
  rw [← hv]
  clear h9 h10
  replace B_a : Hid (Blk v11 (w.heap.size) #[.float .f64 (a 0), .float .f64 (a 1), .float .f64 (a 2), .float .f64 (a 3), .float .f64 (a 4), .float .f64 (a 5)] 27) := by show Blk v11 (w.heap.size) _ _; rw [hv]; exact (Blk.setOther (Blk.drewN B_a.out _) ne_a_u.out _)
  replace B_b : Hid (Blk v11 (w.heap.size + 1) #[.float .f64 (b 0), .float .f64 (b 1), .float .f64 (b 2), .float .f64 (b 3), .float .f64 (b 4), .float .f64 (b 5)] 27) := by show Blk v11 (w.heap.size + 1) _ _; rw [hv]; exact (Blk.setOther (Blk.drewN B_b.out _) ne_b_u.out _)
  replace B_r : Hid (Blk v11 (w.heap.size + 1 + 1) #[.float .f64 0, .float .f64 0, .float .f64 0, .float .f64 0, .float .f64 0, .float .f64 0] 27) := by show Blk v11 (w.heap.size + 1 + 1) _ _; rw [hv]; exact (Blk.setOther (Blk.drewN B_r.out _) ne_r_u.out _)
  replace B_u : Hid (Blk v11 (v4.heap.size) #[.float .f64 (a 0), .float .f64 (a 1), .float .f64 (a 2), .float .f64 s7, .float .f64 s10, .float .f64 (a 5)] 27) := by show Blk v11 (v4.heap.size) _ _; rw [hv]; exact (Blk.set (Blk.drewN B_u.out _) _ _ rfl)
  replace HO : Hid (Below w.heap.size w v11) := by show Below w.heap.size w v11; rw [hv]; exact (Below.setCell (below_drewN HO.out _) low_u.out _)
  clear hv
  obtain ⟨s12, q12, h12, F12⟩ := flop .mul (by simp) (F3.out) (H.out.2.h 5 (by decide)) v11
  replace F12 : Hid _ := F12
  obtain ⟨s13, q13, h13, F13⟩ := flop .sub (by simp) (H.out.1.h 5 (by decide)) (F12.out) (v11.drewN (q12))
  replace F13 : Hid _ := F13
  have a_0 := B_a.out.cell (j := 0) rfl
  have a_1 := B_a.out.cell (j := 1) rfl
  have a_2 := B_a.out.cell (j := 2) rfl
  have a_3 := B_a.out.cell (j := 3) rfl
  have a_4 := B_a.out.cell (j := 4) rfl
  have a_5 := B_a.out.cell (j := 5) rfl
  have a_f := B_a.out.frozen
  have a_z := B_a.out.lt
  have b_0 := B_b.out.cell (j := 0) rfl
  have b_1 := B_b.out.cell (j := 1) rfl
  have b_2 := B_b.out.cell (j := 2) rfl
  have b_3 := B_b.out.cell (j := 3) rfl
  have b_4 := B_b.out.cell (j := 4) rfl
  have b_5 := B_b.out.cell (j := 5) rfl
  have b_f := B_b.out.frozen
  have b_z := B_b.out.lt
  have u_0 := B_u.out.cell (j := 0) rfl
  have u_1 := B_u.out.cell (j := 1) rfl
  have u_2 := B_u.out.cell (j := 2) rfl
  have u_3 := B_u.out.cell (j := 3) rfl
  have u_4 := B_u.out.cell (j := 4) rfl
  have u_5 := B_u.out.cell (j := 5) rfl
  have u_f := B_u.out.frozen
  have u_z := B_u.out.lt
  go_upto_region 7 with fail
  clear a_0 a_1 a_2 a_3 a_4 a_5 a_f a_z b_0 b_1 b_2 b_3 b_4 b_5 b_f b_z u_0 u_1 u_2 u_3 u_4 u_5 u_f u_z
  obtain ⟨v14, hv⟩ : ∃ X, X = ((v11.drewN (q12 + q13)).setCell ⟨v4.heap.size, 5, none⟩ (.float .f64 s13)) := ⟨_, rfl⟩
  rw [← hv]
  clear h12 h13
  replace B_a : Hid (Blk v14 (w.heap.size) #[.float .f64 (a 0), .float .f64 (a 1), .float .f64 (a 2), .float .f64 (a 3), .float .f64 (a 4), .float .f64 (a 5)] 27) := by show Blk v14 (w.heap.size) _ _; rw [hv]; exact (Blk.setOther (Blk.drewN B_a.out _) ne_a_u.out _)
  replace B_b : Hid (Blk v14 (w.heap.size + 1) #[.float .f64 (b 0), .float .f64 (b 1), .float .f64 (b 2), .float .f64 (b 3), .float .f64 (b 4), .float .f64 (b 5)] 27) := by show Blk v14 (w.heap.size + 1) _ _; rw [hv]; exact (Blk.setOther (Blk.drewN B_b.out _) ne_b_u.out _)
  replace B_r : Hid (Blk v14 (w.heap.size + 1 + 1) #[.float .f64 0, .float .f64 0, .float .f64 0, .float .f64 0, .float .f64 0, .float .f64 0] 27) := by show Blk v14 (w.heap.size + 1 + 1) _ _; rw [hv]; exact (Blk.setOther (Blk.drewN B_r.out _) ne_r_u.out _)
  replace B_u : Hid (Blk v14 (v4.heap.size) #[.float .f64 (a 0), .float .f64 (a 1), .float .f64 (a 2), .float .f64 s7, .float .f64 s10, .float .f64 s13] 27) := by show Blk v14 (v4.heap.size) _ _; rw [hv]; exact (Blk.set (Blk.drewN B_u.out _) _ _ rfl)
  replace HO : Hid (Below w.heap.size w v14) := by show Below w.heap.size w v14; rw [hv]; exact (Below.setCell (below_drewN HO.out _) low_u.out _)
  clear hv
  have u_0 := B_u.out.cell (j := 0) rfl
  have u_1 := B_u.out.cell (j := 1) rfl
  have u_2 := B_u.out.cell (j := 2) rfl
  have u_3 := B_u.out.cell (j := 3) rfl
  have u_4 := B_u.out.cell (j := 4) rfl
  have u_5 := B_u.out.cell (j := 5) rfl
  have u_f := B_u.out.frozen
  have u_z := B_u.out.lt
  have r_0 := B_r.out.cell (j := 0) rfl
  have r_1 := B_r.out.cell (j := 1) rfl
  have r_2 := B_r.out.cell (j := 2) rfl
  have r_3 := B_r.out.cell (j := 3) rfl
  have r_4 := B_r.out.cell (j := 4) rfl
  have r_5 := B_r.out.cell (j := 5) rfl
  have r_f := B_r.out.frozen
  have r_z := B_r.out.lt
  go_wp2
  refine bodyPost_ret (v := Rv (r6 (a 0) (a 1) (a 2) (s7) (s10) (s13))) (by simp [results, Try.results40, go_sem, u_0, u_1, u_2, u_3, u_4, u_5, u_f, u_z, r_0, r_1, r_2, r_3, r_4, r_5, r_f, r_z] <;> (repeat' (first | rfl | apply And.intro))) rfl ⟨_, rfl, rc_mk (H.out.1.h 0 (by decide)) (H.out.1.h 1 (by decide)) (H.out.1.h 2 (by decide)) F7.out F10.out F13.out, ?_⟩
  exact (Below.setCell (Below.setCell (Below.setCell (Below.setCell (Below.setCell (Below.setCell HO.out low_r.out _) low_r.out _) low_r.out _) low_r.out _) low_r.out _) low_r.out _)
end Go.Proofs.Ytjibogknakaokaa
