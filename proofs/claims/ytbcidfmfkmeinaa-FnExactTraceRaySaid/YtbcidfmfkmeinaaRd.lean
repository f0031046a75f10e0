/- A ray that is bent: both packages, one class of floats. -/
import Derived.Test.YtbcidfmfkmeinaaRa
import Derived.Test.YtbcidfmfkmeinaaBk
namespace Go.Proofs.Ytbcidfmfkmeinaa
open Go.RowKit Fl
set_option linter.unusedVariables false
set_option linter.unusedSimpArgs false
set_option maxRecDepth 20000 in
set_option maxHeartbeats 3200000 in
theorem iBend_any {a b : Nat → Nat} {A B : Nat → Option Nat} {p q : Nat} {P O : Option Nat} (ha : Rc a A) (hb : Rc b B) (hp : Fc p P) (hq : Fc q O) (w : World) : QV 36 #[Rv a, Rv b, .float .f64 p, .float .f64 q] w (bendC A B P O) := by
  unfold QV
  have H : Hid (Rc a A ∧ Rc b B ∧ Fc p P ∧ Fc q O) := ⟨ha, hb, hp, hq⟩
  clear ha hb hp hq
  have hst := st64
  go_enter Try.func36, Try.ntmps36
  have HO : Hid (Below w.heap.size w w) := Below.refl _ _
  go_upto_region 1 with fail
  obtain ⟨v1, hv⟩ : ∃ X, X = (((w.alloc (.cells #[.float .f64 (a 0), .float .f64 (a 1), .float .f64 (a 2), .float .f64 (a 3), .float .f64 (a 4), .float .f64 (a 5)] 33)).alloc (.cells #[.float .f64 (b 0), .float .f64 (b 1), .float .f64 (b 2), .float .f64 (b 3), .float .f64 (b 4), .float .f64 (b 5)] 33)).alloc (.cells #[.int .i64 0, .float .f64 0, .float .f64 0, .float .f64 0, .float .f64 0, .float .f64 0, .float .f64 0] 46)) := ⟨_, rfl⟩
  rw [← hv]
  have ne_a_b : Hid (w.heap.size ≠ w.heap.size + 1) := by show (w.heap.size : Nat) ≠ w.heap.size + 1; omega
  have ne_a_r : Hid (w.heap.size ≠ w.heap.size + 1 + 1) := by show (w.heap.size : Nat) ≠ w.heap.size + 1 + 1; omega
  have ne_b_r : Hid (w.heap.size + 1 ≠ w.heap.size + 1 + 1) := by show (w.heap.size + 1 : Nat) ≠ w.heap.size + 1 + 1; omega
  have B_a : Hid (Blk v1 (w.heap.size) #[.float .f64 (a 0), .float .f64 (a 1), .float .f64 (a 2), .float .f64 (a 3), .float .f64 (a 4), .float .f64 (a 5)] 33) := by show Blk v1 (w.heap.size) _ _; rw [hv]; exact (Blk.alloc (Blk.alloc (Blk.new (by simp)) _) _)
  have low_a : Hid (w.heap.size ≤ w.heap.size) := by show w.heap.size ≤ w.heap.size; have := HO.out.size; omega
  have B_b : Hid (Blk v1 (w.heap.size + 1) #[.float .f64 (b 0), .float .f64 (b 1), .float .f64 (b 2), .float .f64 (b 3), .float .f64 (b 4), .float .f64 (b 5)] 33) := by show Blk v1 (w.heap.size + 1) _ _; rw [hv]; exact (Blk.alloc (Blk.new (by simp)) _)
  have low_b : Hid (w.heap.size ≤ w.heap.size + 1) := by show w.heap.size ≤ w.heap.size + 1; have := HO.out.size; omega
  have B_r : Hid (Blk v1 (w.heap.size + 1 + 1) #[.int .i64 0, .float .f64 0, .float .f64 0, .float .f64 0, .float .f64 0, .float .f64 0, .float .f64 0] 46) := by show Blk v1 (w.heap.size + 1 + 1) _ _; rw [hv]; exact (Blk.new (by simp))
  have low_r : Hid (w.heap.size ≤ w.heap.size + 1 + 1) := by show w.heap.size ≤ w.heap.size + 1 + 1; have := HO.out.size; omega
  replace HO : Hid (Below w.heap.size w v1) := by show Below w.heap.size w v1; rw [hv]; exact (below_new (below_new (below_new HO.out _) _) _)
  clear hv
  obtain ⟨s2, q2, h2, F2⟩ := flop .quo (by simp) (H.out.2.2.1) (H.out.2.2.2) v1
  replace F2 : Hid _ := F2
  go_upto_region 2 with fail
  obtain ⟨v3, hv⟩ : ∃ X, X = (v1.drewN (q2)) := ⟨_, rfl⟩
  rw [← hv]
  clear h2
  replace B_a : Hid (Blk v3 (w.heap.size) #[.float .f64 (a 0), .float .f64 (a 1), .float .f64 (a 2), .float .f64 (a 3), .float .f64 (a 4), .float .f64 (a 5)] 33) := by show Blk v3 (w.heap.size) _ _; rw [hv]; exact (Blk.drewN B_a.out _)
  replace B_b : Hid (Blk v3 (w.heap.size + 1) #[.float .f64 (b 0), .float .f64 (b 1), .float .f64 (b 2), .float .f64 (b 3), .float .f64 (b 4), .float .f64 (b 5)] 33) := by show Blk v3 (w.heap.size + 1) _ _; rw [hv]; exact (Blk.drewN B_b.out _)
  replace B_r : Hid (Blk v3 (w.heap.size + 1 + 1) #[.int .i64 0, .float .f64 0, .float .f64 0, .float .f64 0, .float .f64 0, .float .f64 0, .float .f64 0] 46) := by show Blk v3 (w.heap.size + 1 + 1) _ _; rw [hv]; exact (Blk.drewN B_r.out _)
  replace HO : Hid (Below w.heap.size w v3) := by show Below w.heap.size w v3; rw [hv]; exact (below_drewN HO.out _)
  clear hv
  have a_0 := B_a.out.cell (j := 0) rfl
  have a_1 := B_a.out.cell (j := 1) rfl
  have a_2 := B_a.out.cell (j := 2) rfl
  have a_3 := B_a.out.cell (j := 3) rfl
  have a_4 := B_a.out.cell (j := 4) rfl
  have a_5 := B_a.out.cell (j := 5) rfl
  have a_f := B_a.out.frozen
  have a_z := B_a.out.lt
  have b_0 := B_b.out.cell (j := 0) rfl
  have b_1 := B_b.out.cell (j := 1) rfl
  have b_2 := B_b.out.cell (j := 2) rfl
  have b_3 := B_b.out.cell (j := 3) rfl
  have b_4 := B_b.out.cell (j := 4) rfl
  have b_5 := B_b.out.cell (j := 5) rfl
  have b_f := B_b.out.frozen
  have b_z := B_b.out.lt
  go_wp2_with fail
  refine (iAlong_any H.out.1 H.out.2.1 _).mono ?_
  rintro e v4 ⟨c, rfl, hc, hb⟩
  clear a_0 a_1 a_2 a_3 a_4 a_5 a_f a_z b_0 b_1 b_2 b_3 b_4 b_5 b_f b_z
  replace B_a : Hid (Blk v4 (w.heap.size) #[.float .f64 (a 0), .float .f64 (a 1), .float .f64 (a 2), .float .f64 (a 3), .float .f64 (a 4), .float .f64 (a 5)] 33) := by show Blk v4 (w.heap.size) _ _; exact Blk.old B_a.out hb
  replace B_b : Hid (Blk v4 (w.heap.size + 1) #[.float .f64 (b 0), .float .f64 (b 1), .float .f64 (b 2), .float .f64 (b 3), .float .f64 (b 4), .float .f64 (b 5)] 33) := by show Blk v4 (w.heap.size + 1) _ _; exact Blk.old B_b.out hb
  replace B_r : Hid (Blk v4 (w.heap.size + 1 + 1) #[.int .i64 0, .float .f64 0, .float .f64 0, .float .f64 0, .float .f64 0, .float .f64 0, .float .f64 0] 46) := by show Blk v4 (w.heap.size + 1 + 1) _ _; exact Blk.old B_r.out hb
  replace HO : Hid (Below w.heap.size w v4) := box_step HO.out hb (Nat.le_refl _)
  clear hb
  replace hc : Hid _ := hc
  go_upto_region 3 with fail
  obtain ⟨s5, q5, h5, F5⟩ := flop .mul (by simp) (F2.out) (F2.out) v4
  replace F5 : Hid _ := F5
  obtain ⟨s6, q6, h6, F6⟩ := flop .mul (by simp) (hc.out) (hc.out) (v4.drewN (q5))
  replace F6 : Hid _ := F6
  obtain ⟨s7, q7, h7, F7⟩ := flop .sub (by simp) (fc_one) (F6.out) (v4.drewN (q5 + q6))
  replace F7 : Hid _ := F7
  obtain ⟨s8, q8, h8, F8⟩ := flop .mul (by simp) (F5.out) (F7.out) (v4.drewN (q5 + q6 + q7))
  replace F8 : Hid _ := F8
  obtain ⟨s9, q9, h9, F9⟩ := flop .sub (by simp) (fc_one) (F8.out) (v4.drewN (q5 + q6 + q7 + q8))
  replace F9 : Hid _ := F9
  go_upto_region 4 with fail
  obtain ⟨v10, hv⟩ : ∃ X, X = (v4.drewN (q5 + q6 + q7 + q8 + q9)) := ⟨_, rfl⟩
  rw [← hv]
  clear h5 h6 h7 h8 h9
  replace B_a : Hid (Blk v10 (w.heap.size) #[.float .f64 (a 0), .float .f64 (a 1), .float .f64 (a 2), .float .f64 (a 3), .float .f64 (a 4), .float .f64 (a 5)] 33) := by show Blk v10 (w.heap.size) _ _; rw [hv]; exact (Blk.drewN B_a.out _)
  replace B_b : Hid (Blk v10 (w.heap.size + 1) #[.float .f64 (b 0), .float .f64 (b 1), .float .f64 (b 2), .float .f64 (b 3), .float .f64 (b 4), .float .f64 (b 5)] 33) := by show Blk v10 (w.heap.size + 1) _ _; rw [hv]; exact (Blk.drewN B_b.out _)
  replace B_r : Hid (Blk v10 (w.heap.size + 1 + 1) #[.int .i64 0, .float .f64 0, .float .f64 0, .float .f64 0, .float .f64 0, .float .f64 0, .float .f64 0] 46) := by show Blk v10 (w.heap.size + 1 + 1) _ _; rw [hv]; exact (Blk.drewN B_r.out _)
  replace HO : Hid (Below w.heap.size w v10) := by show Below w.heap.size w v10; rw [hv]; exact (below_drewN HO.out _)
  clear hv
  have hge := ge_fc (F9.out) fc_zero
  replace hge : _ = geO (bendS A B P O) zO := hge
  by_cases hS : geO (bendS A B P O) zO = true
  · skip
    rw [hS] at hge
    have hD : Hid (bendC A B P O = some (bendR A B P O)) := by show bendC A B P O = _; unfold bendC; rw [if_pos hS]
    clear hS
    go_upto_region 6 with fail
    clear hge
    go_wp2_with fail
    refine (iSqrt_fc (F9.out) _).mono ?_
    rintro e v11 ⟨g, rfl, hg, hb⟩
    replace B_a : Hid (Blk v11 (w.heap.size) #[.float .f64 (a 0), .float .f64 (a 1), .float .f64 (a 2), .float .f64 (a 3), .float .f64 (a 4), .float .f64 (a 5)] 33) := by show Blk v11 (w.heap.size) _ _; exact Blk.old B_a.out hb
    replace B_b : Hid (Blk v11 (w.heap.size + 1) #[.float .f64 (b 0), .float .f64 (b 1), .float .f64 (b 2), .float .f64 (b 3), .float .f64 (b 4), .float .f64 (b 5)] 33) := by show Blk v11 (w.heap.size + 1) _ _; exact Blk.old B_b.out hb
    replace B_r : Hid (Blk v11 (w.heap.size + 1 + 1) #[.int .i64 0, .float .f64 0, .float .f64 0, .float .f64 0, .float .f64 0, .float .f64 0, .float .f64 0] 46) := by show Blk v11 (w.heap.size + 1 + 1) _ _; exact Blk.old B_r.out hb
    replace HO : Hid (Below w.heap.size w v11) := box_step HO.out hb (Nat.le_refl _)
    clear hb
    replace hg : Hid _ := hg
    obtain ⟨s12, q12, h12, F12⟩ := flop .mul (by simp) (F2.out) (hc.out) v11
    replace F12 : Hid _ := F12
    obtain ⟨s13, q13, h13, F13⟩ := flop .sub (by simp) (hg.out) (F12.out) (v11.drewN (q12))
    replace F13 : Hid _ := F13
    go_upto_region 7 with fail
    obtain ⟨v14, hv⟩ : ∃ X, X = (v11.drewN (q12 + q13)) := ⟨_, rfl⟩
    rw [← hv]
    clear h12 h13
    replace B_a : Hid (Blk v14 (w.heap.size) #[.float .f64 (a 0), .float .f64 (a 1), .float .f64 (a 2), .float .f64 (a 3), .float .f64 (a 4), .float .f64 (a 5)] 33) := by show Blk v14 (w.heap.size) _ _; rw [hv]; exact (Blk.drewN B_a.out _)
    replace B_b : Hid (Blk v14 (w.heap.size + 1) #[.float .f64 (b 0), .float .f64 (b 1), .float .f64 (b 2), .float .f64 (b 3), .float .f64 (b 4), .float .f64 (b 5)] 33) := by show Blk v14 (w.heap.size + 1) _ _; rw [hv]; exact (Blk.drewN B_b.out _)
    replace B_r : Hid (Blk v14 (w.heap.size + 1 + 1) #[.int .i64 0, .float .f64 0, .float .f64 0, .float .f64 0, .float .f64 0, .float .f64 0, .float .f64 0] 46) := by show Blk v14 (w.heap.size + 1 + 1) _ _; rw [hv]; exact (Blk.drewN B_r.out _)
    replace HO : Hid (Below w.heap.size w v14) := by show Below w.heap.size w v14; rw [hv]; exact (below_drewN HO.out _)
    clear hv
    obtain ⟨s15, q15, h15, F15⟩ := flop .mul (by simp) (F2.out) ((H.out.1.h 3 (by decide))) v14
    replace F15 : Hid _ := F15
    obtain ⟨s16, q16, h16, F16⟩ := flop .mul (by simp) (F13.out) ((H.out.2.1.h 3 (by decide))) (v14.drewN (q15))
    replace F16 : Hid _ := F16
    obtain ⟨s17, q17, h17, F17⟩ := flop .add (by simp) (F15.out) (F16.out) (v14.drewN (q15 + q16))
    replace F17 : Hid _ := F17
    have a_0 := B_a.out.cell (j := 0) rfl
    have a_1 := B_a.out.cell (j := 1) rfl
    have a_2 := B_a.out.cell (j := 2) rfl
    have a_3 := B_a.out.cell (j := 3) rfl
    have a_4 := B_a.out.cell (j := 4) rfl
    have a_5 := B_a.out.cell (j := 5) rfl
    have a_f := B_a.out.frozen
    have a_z := B_a.out.lt
    have b_0 := B_b.out.cell (j := 0) rfl
    have b_1 := B_b.out.cell (j := 1) rfl
    have b_2 := B_b.out.cell (j := 2) rfl
    have b_3 := B_b.out.cell (j := 3) rfl
    have b_4 := B_b.out.cell (j := 4) rfl
    have b_5 := B_b.out.cell (j := 5) rfl
    have b_f := B_b.out.frozen
    have b_z := B_b.out.lt
    go_upto_region 8 with fail
    clear a_0 a_1 a_2 a_3 a_4 a_5 a_f a_z b_0 b_1 b_2 b_3 b_4 b_5 b_f b_z
    obtain ⟨v18, hv⟩ : ∃ X, X = ((v14.drewN (q15 + q16 + q17)).setCell ⟨w.heap.size, 3, none⟩ (.float .f64 s17)) := ⟨_, rfl⟩
    rw [← hv]
    clear h15 h16 h17
    replace B_a : Hid (Blk v18 (w.heap.size) #[.float .f64 (a 0), .float .f64 (a 1), .float .f64 (a 2), .float .f64 s17, .float .f64 (a 4), .float .f64 (a 5)] 33) := by show Blk v18 (w.heap.size) _ _; rw [hv]; exact (Blk.set (Blk.drewN B_a.out _) _ _ rfl)
    replace B_b : Hid (Blk v18 (w.heap.size + 1) #[.float .f64 (b 0), .float .f64 (b 1), .float .f64 (b 2), .float .f64 (b 3), .float .f64 (b 4), .float .f64 (b 5)] 33) := by show Blk v18 (w.heap.size + 1) _ _; rw [hv]; exact (Blk.setOther (Blk.drewN B_b.out _) (Ne.symm ne_a_b.out) _)
    replace B_r : Hid (Blk v18 (w.heap.size + 1 + 1) #[.int .i64 0, .float .f64 0, .float .f64 0, .float .f64 0, .float .f64 0, .float .f64 0, .float .f64 0] 46) := by show Blk v18 (w.heap.size + 1 + 1) _ _; rw [hv]; exact (Blk.setOther (Blk.drewN B_r.out _) (Ne.symm ne_a_r.out) _)
    replace HO : Hid (Below w.heap.size w v18) := by show Below w.heap.size w v18; rw [hv]; exact (Below.setCell (below_drewN HO.out _) low_a.out _)
    clear hv
    obtain ⟨s19, q19, h19, F19⟩ := flop .mul (by simp) (F2.out) ((H.out.1.h 4 (by decide))) v18
    replace F19 : Hid _ := F19
    obtain ⟨s20, q20, h20, F20⟩ := flop .mul (by simp) (F13.out) ((H.out.2.1.h 4 (by decide))) (v18.drewN (q19))
    replace F20 : Hid _ := F20
    obtain ⟨s21, q21, h21, F21⟩ := flop .add (by simp) (F19.out) (F20.out) (v18.drewN (q19 + q20))
    replace F21 : Hid _ := F21
    have a_0 := B_a.out.cell (j := 0) rfl
    have a_1 := B_a.out.cell (j := 1) rfl
    have a_2 := B_a.out.cell (j := 2) rfl
    have a_3 := B_a.out.cell (j := 3) rfl
    have a_4 := B_a.out.cell (j := 4) rfl
    have a_5 := B_a.out.cell (j := 5) rfl
    have a_f := B_a.out.frozen
    have a_z := B_a.out.lt
    have b_0 := B_b.out.cell (j := 0) rfl
    have b_1 := B_b.out.cell (j := 1) rfl
    have b_2 := B_b.out.cell (j := 2) rfl
    have b_3 := B_b.out.cell (j := 3) rfl
    have b_4 := B_b.out.cell (j := 4) rfl
    have b_5 := B_b.out.cell (j := 5) rfl
    have b_f := B_b.out.frozen
    have b_z := B_b.out.lt
    go_upto_region 9 with fail
    clear a_0 a_1 a_2 a_3 a_4 a_5 a_f a_z b_0 b_1 b_2 b_3 b_4 b_5 b_f b_z
    obtain ⟨v22, hv⟩ : ∃ X, X = ((v18.drewN (q19 + q20 + q21)).setCell ⟨w.heap.size, 4, none⟩ (.float .f64 s21)) := ⟨_, rfl⟩
    rw [← hv]
    clear h19 h20 h21
    replace B_a : Hid (Blk v22 (w.heap.size) #[.float .f64 (a 0), .float .f64 (a 1), .float .f64 (a 2), .float .f64 s17, .float .f64 s21, .float .f64 (a 5)] 33) := by show Blk v22 (w.heap.size) _ _; rw [hv]; exact (Blk.set (Blk.drewN B_a.out _) _ _ rfl)
    replace B_b : Hid (Blk v22 (w.heap.size + 1) #[.float .f64 (b 0), .float .f64 (b 1), .float .f64 (b 2), .float .f64 (b 3), .float .f64 (b 4), .float .f64 (b 5)] 33) := by show Blk v22 (w.heap.size + 1) _ _; rw [hv]; exact (Blk.setOther (Blk.drewN B_b.out _) (Ne.symm ne_a_b.out) _)
    replace B_r : Hid (Blk v22 (w.heap.size + 1 + 1) #[.int .i64 0, .float .f64 0, .float .f64 0, .float .f64 0, .float .f64 0, .float .f64 0, .float .f64 0] 46) := by show Blk v22 (w.heap.size + 1 + 1) _ _; rw [hv]; exact (Blk.setOther (Blk.drewN B_r.out _) (Ne.symm ne_a_r.out) _)
    replace HO : Hid (Below w.heap.size w v22) := by show Below w.heap.size w v22; rw [hv]; exact (Below.setCell (below_drewN HO.out _) low_a.out _)
    clear hv
    obtain ⟨s23, q23, h23, F23⟩ := flop .mul (by simp) (F2.out) ((H.out.1.h 5 (by decide))) v22
    replace F23 : Hid _ := F23
    obtain ⟨s24, q24, h24, F24⟩ := flop .mul (by simp) (F13.out) ((H.out.2.1.h 5 (by decide))) (v22.drewN (q23))
    replace F24 : Hid _ := F24
    obtain ⟨s25, q25, h25, F25⟩ := flop .add (by simp) (F23.out) (F24.out) (v22.drewN (q23 + q24))
    replace F25 : Hid _ := F25
    have a_0 := B_a.out.cell (j := 0) rfl
    have a_1 := B_a.out.cell (j := 1) rfl
    have a_2 := B_a.out.cell (j := 2) rfl
    have a_3 := B_a.out.cell (j := 3) rfl
    have a_4 := B_a.out.cell (j := 4) rfl
    have a_5 := B_a.out.cell (j := 5) rfl
    have a_f := B_a.out.frozen
    have a_z := B_a.out.lt
    have b_0 := B_b.out.cell (j := 0) rfl
    have b_1 := B_b.out.cell (j := 1) rfl
    have b_2 := B_b.out.cell (j := 2) rfl
    have b_3 := B_b.out.cell (j := 3) rfl
    have b_4 := B_b.out.cell (j := 4) rfl
    have b_5 := B_b.out.cell (j := 5) rfl
    have b_f := B_b.out.frozen
    have b_z := B_b.out.lt
    go_upto_region 10 with fail
    clear a_0 a_1 a_2 a_3 a_4 a_5 a_f a_z b_0 b_1 b_2 b_3 b_4 b_5 b_f b_z
    obtain ⟨v26, hv⟩ : ∃ X, X = ((v22.drewN (q23 + q24 + q25)).setCell ⟨w.heap.size, 5, none⟩ (.float .f64 s25)) := ⟨_, rfl⟩
    rw [← hv]
    clear h23 h24 h25
    replace B_a : Hid (Blk v26 (w.heap.size) #[.float .f64 (a 0), .float .f64 (a 1), .float .f64 (a 2), .float .f64 s17, .float .f64 s21, .float .f64 s25] 33) := by show Blk v26 (w.heap.size) _ _; rw [hv]; exact (Blk.set (Blk.drewN B_a.out _) _ _ rfl)
    replace B_b : Hid (Blk v26 (w.heap.size + 1) #[.float .f64 (b 0), .float .f64 (b 1), .float .f64 (b 2), .float .f64 (b 3), .float .f64 (b 4), .float .f64 (b 5)] 33) := by show Blk v26 (w.heap.size + 1) _ _; rw [hv]; exact (Blk.setOther (Blk.drewN B_b.out _) (Ne.symm ne_a_b.out) _)
    replace B_r : Hid (Blk v26 (w.heap.size + 1 + 1) #[.int .i64 0, .float .f64 0, .float .f64 0, .float .f64 0, .float .f64 0, .float .f64 0, .float .f64 0] 46) := by show Blk v26 (w.heap.size + 1 + 1) _ _; rw [hv]; exact (Blk.setOther (Blk.drewN B_r.out _) (Ne.symm ne_a_r.out) _)
    replace HO : Hid (Below w.heap.size w v26) := by show Below w.heap.size w v26; rw [hv]; exact (Below.setCell (below_drewN HO.out _) low_a.out _)
    clear hv
    have a_0 := B_a.out.cell (j := 0) rfl
    have a_1 := B_a.out.cell (j := 1) rfl
    have a_2 := B_a.out.cell (j := 2) rfl
    have a_3 := B_a.out.cell (j := 3) rfl
    have a_4 := B_a.out.cell (j := 4) rfl
    have a_5 := B_a.out.cell (j := 5) rfl
    have a_f := B_a.out.frozen
    have a_z := B_a.out.lt
    have r_0 := B_r.out.cell (j := 0) rfl
    have r_1 := B_r.out.cell (j := 1) rfl
    have r_2 := B_r.out.cell (j := 2) rfl
    have r_3 := B_r.out.cell (j := 3) rfl
    have r_4 := B_r.out.cell (j := 4) rfl
    have r_5 := B_r.out.cell (j := 5) rfl
    have r_6 := B_r.out.cell (j := 6) rfl
    have r_f := B_r.out.frozen
    have r_z := B_r.out.lt
    go_wp2
    refine bodyPost_ret (v := Qv (codeOf (some (bendR A B P O))) (r6 (a 0) (a 1) (a 2) (s17) (s21) (s25))) (by simp [results, Try.results36, go_sem, a_0, a_1, a_2, a_3, a_4, a_5, a_f, a_z, r_0, r_1, r_2, r_3, r_4, r_5, r_6, r_f, r_z] <;> (repeat' (first | rfl | apply And.intro))) rfl ⟨_, by rw [hD.out], by rw [hD.out]; exact rc_mk ((H.out.1.h 0 (by decide))) ((H.out.1.h 1 (by decide))) ((H.out.1.h 2 (by decide))) (F17.out) (F21.out) (F25.out), ?_⟩
    exact (Below.setCell (Below.setCell (Below.setCell (Below.setCell (Below.setCell (Below.setCell (Below.setCell HO.out low_r.out _) low_r.out _) low_r.out _) low_r.out _) low_r.out _) low_r.out _) low_r.out _)
  · skip
    replace hS : geO (bendS A B P O) zO = false := by simpa using hS
    rw [hS] at hge
    have hD : Hid (bendC A B P O = none) := by show bendC A B P O = _; unfold bendC; rw [if_neg (by rw [hS]; simp)]
    clear hS
    have r_0 := B_r.out.cell (j := 0) rfl
    have r_1 := B_r.out.cell (j := 1) rfl
    have r_2 := B_r.out.cell (j := 2) rfl
    have r_3 := B_r.out.cell (j := 3) rfl
    have r_4 := B_r.out.cell (j := 4) rfl
    have r_5 := B_r.out.cell (j := 5) rfl
    have r_6 := B_r.out.cell (j := 6) rfl
    have r_f := B_r.out.frozen
    have r_z := B_r.out.lt
    go_wp2
    refine bodyPost_ret (v := Qv (codeOf (none : Option (Nat → Option Nat))) (r6 0 0 0 0 0 0)) (by simp [results, Try.results36, go_sem, r_0, r_1, r_2, r_3, r_4, r_5, r_6, r_f, r_z] <;> (repeat' (first | rfl | apply And.intro))) rfl ⟨_, by rw [hD.out], by rw [hD.out]; exact ⟨fun j hj => match j, hj with | 0, _ => fc_zero | 1, _ => fc_zero | 2, _ => fc_zero | 3, _ => fc_zero | 4, _ => fc_zero | 5, _ => fc_zero⟩, ?_⟩
    exact (Below.setCell (Below.setCell (Below.setCell (Below.setCell (Below.setCell (Below.setCell (Below.setCell HO.out low_r.out _) low_r.out _) low_r.out _) low_r.out _) low_r.out _) low_r.out _) low_r.out _)
set_option maxRecDepth 20000 in
set_option maxHeartbeats 3200000 in
theorem sBend_any {a b : Nat → Nat} {A B : Nat → Option Nat} {p q : Nat} {P O : Option Nat} (ha : Rc a A) (hb : Rc b B) (hp : Fc p P) (hq : Fc q O) (w : World) : QV 15 #[Rv a, Rv b, .float .f64 p, .float .f64 q] w (bendC A B P O) := by
  unfold QV
  have H : Hid (Rc a A ∧ Rc b B ∧ Fc p P ∧ Fc q O) := ⟨ha, hb, hp, hq⟩
  clear ha hb hp hq
  have hst := st64
  go_enter Try.func15, Try.ntmps15
  have HO : Hid (Below w.heap.size w w) := Below.refl _ _
  go_upto_region 1 with fail
  obtain ⟨v1, hv⟩ : ∃ X, X = (((w.alloc (.cells #[.float .f64 (a 0), .float .f64 (a 1), .float .f64 (a 2), .float .f64 (a 3), .float .f64 (a 4), .float .f64 (a 5)] 33)).alloc (.cells #[.float .f64 (b 0), .float .f64 (b 1), .float .f64 (b 2), .float .f64 (b 3), .float .f64 (b 4), .float .f64 (b 5)] 33)).alloc (.cells #[.int .i64 0, .float .f64 0, .float .f64 0, .float .f64 0, .float .f64 0, .float .f64 0, .float .f64 0] 46)) := ⟨_, rfl⟩
  rw [← hv]
  have ne_a_b : Hid (w.heap.size ≠ w.heap.size + 1) := by show (w.heap.size : Nat) ≠ w.heap.size + 1; omega
  have ne_a_r : Hid (w.heap.size ≠ w.heap.size + 1 + 1) := by show (w.heap.size : Nat) ≠ w.heap.size + 1 + 1; omega
  have ne_b_r : Hid (w.heap.size + 1 ≠ w.heap.size + 1 + 1) := by show (w.heap.size + 1 : Nat) ≠ w.heap.size + 1 + 1; omega
  have B_a : Hid (Blk v1 (w.heap.size) #[.float .f64 (a 0), .float .f64 (a 1), .float .f64 (a 2), .float .f64 (a 3), .float .f64 (a 4), .float .f64 (a 5)] 33) := by show Blk v1 (w.heap.size) _ _; rw [hv]; exact (Blk.alloc (Blk.alloc (Blk.new (by simp)) _) _)
  have low_a : Hid (w.heap.size ≤ w.heap.size) := by show w.heap.size ≤ w.heap.size; have := HO.out.size; omega
  have B_b : Hid (Blk v1 (w.heap.size + 1) #[.float .f64 (b 0), .float .f64 (b 1), .float .f64 (b 2), .float .f64 (b 3), .float .f64 (b 4), .float .f64 (b 5)] 33) := by show Blk v1 (w.heap.size + 1) _ _; rw [hv]; exact (Blk.alloc (Blk.new (by simp)) _)
  have low_b : Hid (w.heap.size ≤ w.heap.size + 1) := by show w.heap.size ≤ w.heap.size + 1; have := HO.out.size; omega
  have B_r : Hid (Blk v1 (w.heap.size + 1 + 1) #[.int .i64 0, .float .f64 0, .float .f64 0, .float .f64 0, .float .f64 0, .float .f64 0, .float .f64 0] 46) := by show Blk v1 (w.heap.size + 1 + 1) _ _; rw [hv]; exact (Blk.new (by simp))
  have low_r : Hid (w.heap.size ≤ w.heap.size + 1 + 1) := by show w.heap.size ≤ w.heap.size + 1 + 1; have := HO.out.size; omega
  replace HO : Hid (Below w.heap.size w v1) := by show Below w.heap.size w v1; rw [hv]; exact (below_new (below_new (below_new HO.out _) _) _)
  clear hv
  obtain ⟨s2, q2, h2, F2⟩ := flop .quo (by simp) (H.out.2.2.1) (H.out.2.2.2) v1
  replace F2 : Hid _ := F2
  go_upto_region 2 with fail
  obtain ⟨v3, hv⟩ : ∃ X, X = (v1.drewN (q2)) := ⟨_, rfl⟩
  rw [← hv]
  clear h2
  replace B_a : Hid (Blk v3 (w.heap.size) #[.float .f64 (a 0), .float .f64 (a 1), .float .f64 (a 2), .float .f64 (a 3), .float .f64 (a 4), .float .f64 (a 5)] 33) := by show Blk v3 (w.heap.size) _ _; rw [hv]; exact (Blk.drewN B_a.out _)
  replace B_b : Hid (Blk v3 (w.heap.size + 1) #[.float .f64 (b 0), .float .f64 (b 1), .float .f64 (b 2), .float .f64 (b 3), .float .f64 (b 4), .float .f64 (b 5)] 33) := by show Blk v3 (w.heap.size + 1) _ _; rw [hv]; exact (Blk.drewN B_b.out _)
  replace B_r : Hid (Blk v3 (w.heap.size + 1 + 1) #[.int .i64 0, .float .f64 0, .float .f64 0, .float .f64 0, .float .f64 0, .float .f64 0, .float .f64 0] 46) := by show Blk v3 (w.heap.size + 1 + 1) _ _; rw [hv]; exact (Blk.drewN B_r.out _)
  replace HO : Hid (Below w.heap.size w v3) := by show Below w.heap.size w v3; rw [hv]; exact (below_drewN HO.out _)
  clear hv
  have a_0 := B_a.out.cell (j := 0) rfl
  have a_1 := B_a.out.cell (j := 1) rfl
  have a_2 := B_a.out.cell (j := 2) rfl
  have a_3 := B_a.out.cell (j := 3) rfl
  have a_4 := B_a.out.cell (j := 4) rfl
  have a_5 := B_a.out.cell (j := 5) rfl
  have a_f := B_a.out.frozen
  have a_z := B_a.out.lt
  have b_0 := B_b.out.cell (j := 0) rfl
  have b_1 := B_b.out.cell (j := 1) rfl
  have b_2 := B_b.out.cell (j := 2) rfl
  have b_3 := B_b.out.cell (j := 3) rfl
  have b_4 := B_b.out.cell (j := 4) rfl
  have b_5 := B_b.out.cell (j := 5) rfl
  have b_f := B_b.out.frozen
  have b_z := B_b.out.lt
  go_wp2_with fail
  refine (sAlong_any H.out.1 H.out.2.1 _).mono ?_
  rintro e v4 ⟨c, rfl, hc, hb⟩
  clear a_0 a_1 a_2 a_3 a_4 a_5 a_f a_z b_0 b_1 b_2 b_3 b_4 b_5 b_f b_z
  replace B_a : Hid (Blk v4 (w.heap.size) #[.float .f64 (a 0), .float .f64 (a 1), .float .f64 (a 2), .float .f64 (a 3), .float .f64 (a 4), .float .f64 (a 5)] 33) := by show Blk v4 (w.heap.size) _ _; exact Blk.old B_a.out hb
  replace B_b : Hid (Blk v4 (w.heap.size + 1) #[.float .f64 (b 0), .float .f64 (b 1), .float .f64 (b 2), .float .f64 (b 3), .float .f64 (b 4), .float .f64 (b 5)] 33) := by show Blk v4 (w.heap.size + 1) _ _; exact Blk.old B_b.out hb
  replace B_r : Hid (Blk v4 (w.heap.size + 1 + 1) #[.int .i64 0, .float .f64 0, .float .f64 0, .float .f64 0, .float .f64 0, .float .f64 0, .float .f64 0] 46) := by show Blk v4 (w.heap.size + 1 + 1) _ _; exact Blk.old B_r.out hb
  replace HO : Hid (Below w.heap.size w v4) := box_step HO.out hb (Nat.le_refl _)
  clear hb
  replace hc : Hid _ := hc
  go_upto_region 3 with fail
  obtain ⟨s5, q5, h5, F5⟩ := flop .mul (by simp) (F2.out) (F2.out) v4
  replace F5 : Hid _ := F5
  obtain ⟨s6, q6, h6, F6⟩ := flop .mul (by simp) (hc.out) (hc.out) (v4.drewN (q5))
  replace F6 : Hid _ := F6
  obtain ⟨s7, q7, h7, F7⟩ := flop .sub (by simp) (fc_one) (F6.out) (v4.drewN (q5 + q6))
  replace F7 : Hid _ := F7
  obtain ⟨s8, q8, h8, F8⟩ := flop .mul (by simp) (F5.out) (F7.out) (v4.drewN (q5 + q6 + q7))
  replace F8 : Hid _ := F8
  obtain ⟨s9, q9, h9, F9⟩ := flop .sub (by simp) (fc_one) (F8.out) (v4.drewN (q5 + q6 + q7 + q8))
  replace F9 : Hid _ := F9
  go_upto_region 4 with fail
  obtain ⟨v10, hv⟩ : ∃ X, X = (v4.drewN (q5 + q6 + q7 + q8 + q9)) := ⟨_, rfl⟩
  rw [← hv]
  clear h5 h6 h7 h8 h9
  replace B_a : Hid (Blk v10 (w.heap.size) #[.float .f64 (a 0), .float .f64 (a 1), .float .f64 (a 2), .float .f64 (a 3), .float .f64 (a 4), .float .f64 (a 5)] 33) := by show Blk v10 (w.heap.size) _ _; rw [hv]; exact (Blk.drewN B_a.out _)
  replace B_b : Hid (Blk v10 (w.heap.size + 1) #[.float .f64 (b 0), .float .f64 (b 1), .float .f64 (b 2), .float .f64 (b 3), .float .f64 (b 4), .float .f64 (b 5)] 33) := by show Blk v10 (w.heap.size + 1) _ _; rw [hv]; exact (Blk.drewN B_b.out _)
  replace B_r : Hid (Blk v10 (w.heap.size + 1 + 1) #[.int .i64 0, .float .f64 0, .float .f64 0, .float .f64 0, .float .f64 0, .float .f64 0, .float .f64 0] 46) := by show Blk v10 (w.heap.size + 1 + 1) _ _; rw [hv]; exact (Blk.drewN B_r.out _)
  replace HO : Hid (Below w.heap.size w v10) := by show Below w.heap.size w v10; rw [hv]; exact (below_drewN HO.out _)
  clear hv
  have hge := ge_fc (F9.out) fc_zero
  replace hge : _ = geO (bendS A B P O) zO := hge
  by_cases hS : geO (bendS A B P O) zO = true
  · skip
    rw [hS] at hge
    have hD : Hid (bendC A B P O = some (bendR A B P O)) := by show bendC A B P O = _; unfold bendC; rw [if_pos hS]
    clear hS
    go_upto_region 6 with fail
    clear hge
    go_wp2_with fail
    refine (sSqrt_fc (F9.out) _).mono ?_
    rintro e v11 ⟨g, rfl, hg, hb⟩
    replace B_a : Hid (Blk v11 (w.heap.size) #[.float .f64 (a 0), .float .f64 (a 1), .float .f64 (a 2), .float .f64 (a 3), .float .f64 (a 4), .float .f64 (a 5)] 33) := by show Blk v11 (w.heap.size) _ _; exact Blk.old B_a.out hb
    replace B_b : Hid (Blk v11 (w.heap.size + 1) #[.float .f64 (b 0), .float .f64 (b 1), .float .f64 (b 2), .float .f64 (b 3), .float .f64 (b 4), .float .f64 (b 5)] 33) := by show Blk v11 (w.heap.size + 1) _ _; exact Blk.old B_b.out hb
    replace B_r : Hid (Blk v11 (w.heap.size + 1 + 1) #[.int .i64 0, .float .f64 0, .float .f64 0, .float .f64 0, .float .f64 0, .float .f64 0, .float .f64 0] 46) := by show Blk v11 (w.heap.size + 1 + 1) _ _; exact Blk.old B_r.out hb
    replace HO : Hid (Below w.heap.size w v11) := box_step HO.out hb (Nat.le_refl _)
    clear hb
    replace hg : Hid _ := hg
    obtain ⟨s12, q12, h12, F12⟩ := flop .mul (by simp) (F2.out) (hc.out) v11
    replace F12 : Hid _ := F12
    obtain ⟨s13, q13, h13, F13⟩ := flop .sub (by simp) (hg.out) (F12.out) (v11.drewN (q12))
    replace F13 : Hid _ := F13
    go_upto_region 7 with fail
    obtain ⟨v14, hv⟩ : ∃ X, X = (v11.drewN (q12 + q13)) := ⟨_, rfl⟩
    rw [← hv]
    clear h12 h13
    replace B_a : Hid (Blk v14 (w.heap.size) #[.float .f64 (a 0), .float .f64 (a 1), .float .f64 (a 2), .float .f64 (a 3), .float .f64 (a 4), .float .f64 (a 5)] 33) := by show Blk v14 (w.heap.size) _ _; rw [hv]; exact (Blk.drewN B_a.out _)
    replace B_b : Hid (Blk v14 (w.heap.size + 1) #[.float .f64 (b 0), .float .f64 (b 1), .float .f64 (b 2), .float .f64 (b 3), .float .f64 (b 4), .float .f64 (b 5)] 33) := by show Blk v14 (w.heap.size + 1) _ _; rw [hv]; exact (Blk.drewN B_b.out _)
    replace B_r : Hid (Blk v14 (w.heap.size + 1 + 1) #[.int .i64 0, .float .f64 0, .float .f64 0, .float .f64 0, .float .f64 0, .float .f64 0, .float .f64 0] 46) := by show Blk v14 (w.heap.size + 1 + 1) _ _; rw [hv]; exact (Blk.drewN B_r.out _)
    replace HO : Hid (Below w.heap.size w v14) := by show Below w.heap.size w v14; rw [hv]; exact (below_drewN HO.out _)
    clear hv
    have a_0 := B_a.out.cell (j := 0) rfl
    have a_1 := B_a.out.cell (j := 1) rfl
    have a_2 := B_a.out.cell (j := 2) rfl
    have a_3 := B_a.out.cell (j := 3) rfl
    have a_4 := B_a.out.cell (j := 4) rfl
    have a_5 := B_a.out.cell (j := 5) rfl
    have a_f := B_a.out.frozen
    have a_z := B_a.out.lt
    go_upto_region 8 with fail
    clear a_0 a_1 a_2 a_3 a_4 a_5 a_f a_z
    obtain ⟨v15, hv⟩ : ∃ X, X = (v14.alloc (.cells #[.float .f64 (a 0), .float .f64 (a 1), .float .f64 (a 2), .float .f64 (a 3), .float .f64 (a 4), .float .f64 (a 5)] 33)) := ⟨_, rfl⟩
    rw [← hv]
    have ne_a_u : Hid (w.heap.size ≠ v14.heap.size) := Nat.ne_of_lt (Nat.lt_of_lt_of_le B_a.out.lt (by omega))
    have ne_b_u : Hid (w.heap.size + 1 ≠ v14.heap.size) := Nat.ne_of_lt (Nat.lt_of_lt_of_le B_b.out.lt (by omega))
    have ne_r_u : Hid (w.heap.size + 1 + 1 ≠ v14.heap.size) := Nat.ne_of_lt (Nat.lt_of_lt_of_le B_r.out.lt (by omega))
    have B_u : Hid (Blk v15 (v14.heap.size) #[.float .f64 (a 0), .float .f64 (a 1), .float .f64 (a 2), .float .f64 (a 3), .float .f64 (a 4), .float .f64 (a 5)] 33) := by show Blk v15 (v14.heap.size) _ _; rw [hv]; exact (Blk.new (by simp))
    have low_u : Hid (w.heap.size ≤ v14.heap.size) := by show w.heap.size ≤ v14.heap.size; have := HO.out.size; omega
    replace B_a : Hid (Blk v15 (w.heap.size) #[.float .f64 (a 0), .float .f64 (a 1), .float .f64 (a 2), .float .f64 (a 3), .float .f64 (a 4), .float .f64 (a 5)] 33) := by show Blk v15 (w.heap.size) _ _; rw [hv]; exact (Blk.alloc B_a.out _)
    replace B_b : Hid (Blk v15 (w.heap.size + 1) #[.float .f64 (b 0), .float .f64 (b 1), .float .f64 (b 2), .float .f64 (b 3), .float .f64 (b 4), .float .f64 (b 5)] 33) := by show Blk v15 (w.heap.size + 1) _ _; rw [hv]; exact (Blk.alloc B_b.out _)
    replace B_r : Hid (Blk v15 (w.heap.size + 1 + 1) #[.int .i64 0, .float .f64 0, .float .f64 0, .float .f64 0, .float .f64 0, .float .f64 0, .float .f64 0] 46) := by show Blk v15 (w.heap.size + 1 + 1) _ _; rw [hv]; exact (Blk.alloc B_r.out _)
    replace HO : Hid (Below w.heap.size w v15) := by show Below w.heap.size w v15; rw [hv]; exact (below_new HO.out _)
    clear hv
    obtain ⟨s16, q16, h16, F16⟩ := flop .mul (by simp) (F2.out) ((H.out.1.h 3 (by decide))) v15
    replace F16 : Hid _ := F16
    obtain ⟨s17, q17, h17, F17⟩ := flop .mul (by simp) (F13.out) ((H.out.2.1.h 3 (by decide))) (v15.drewN (q16))
    replace F17 : Hid _ := F17
    obtain ⟨s18, q18, h18, F18⟩ := flop .add (by simp) (F16.out) (F17.out) (v15.drewN (q16 + q17))
    replace F18 : Hid _ := F18
    have a_0 := B_a.out.cell (j := 0) rfl
    have a_1 := B_a.out.cell (j := 1) rfl
    have a_2 := B_a.out.cell (j := 2) rfl
    have a_3 := B_a.out.cell (j := 3) rfl
    have a_4 := B_a.out.cell (j := 4) rfl
    have a_5 := B_a.out.cell (j := 5) rfl
    have a_f := B_a.out.frozen
    have a_z := B_a.out.lt
    have b_0 := B_b.out.cell (j := 0) rfl
    have b_1 := B_b.out.cell (j := 1) rfl
    have b_2 := B_b.out.cell (j := 2) rfl
    have b_3 := B_b.out.cell (j := 3) rfl
    have b_4 := B_b.out.cell (j := 4) rfl
    have b_5 := B_b.out.cell (j := 5) rfl
    have b_f := B_b.out.frozen
    have b_z := B_b.out.lt
    have u_0 := B_u.out.cell (j := 0) rfl
    have u_1 := B_u.out.cell (j := 1) rfl
    have u_2 := B_u.out.cell (j := 2) rfl
    have u_3 := B_u.out.cell (j := 3) rfl
    have u_4 := B_u.out.cell (j := 4) rfl
    have u_5 := B_u.out.cell (j := 5) rfl
    have u_f := B_u.out.frozen
    have u_z := B_u.out.lt
    go_upto_region 9 with fail
    clear a_0 a_1 a_2 a_3 a_4 a_5 a_f a_z b_0 b_1 b_2 b_3 b_4 b_5 b_f b_z u_0 u_1 u_2 u_3 u_4 u_5 u_f u_z
    obtain ⟨v19, hv⟩ : ∃ X, X = ((v15.drewN (q16 + q17 + q18)).setCell ⟨v14.heap.size, 3, none⟩ (.float .f64 s18)) := ⟨_, rfl⟩
    rw [← hv]
    clear h16 h17 h18
    replace B_a : Hid (Blk v19 (w.heap.size) #[.float .f64 (a 0), .float .f64 (a 1), .float .f64 (a 2), .float .f64 (a 3), .float .f64 (a 4), .float .f64 (a 5)] 33) := by show Blk v19 (w.heap.size) _ _; rw [hv]; exact (Blk.setOther (Blk.drewN B_a.out _) ne_a_u.out _)
    replace B_b : Hid (Blk v19 (w.heap.size + 1) #[.float .f64 (b 0), .float .f64 (b 1), .float .f64 (b 2), .float .f64 (b 3), .float .f64 (b 4), .float .f64 (b 5)] 33) := by show Blk v19 (w.heap.size + 1) _ _; rw [hv]; exact (Blk.setOther (Blk.drewN B_b.out _) ne_b_u.out _)
    replace B_r : Hid (Blk v19 (w.heap.size + 1 + 1) #[.int .i64 0, .float .f64 0, .float .f64 0, .float .f64 0, .float .f64 0, .float .f64 0, .float .f64 0] 46) := by show Blk v19 (w.heap.size + 1 + 1) _ _; rw [hv]; exact (Blk.setOther (Blk.drewN B_r.out _) ne_r_u.out _)
    replace B_u : Hid (Blk v19 (v14.heap.size) #[.float .f64 (a 0), .float .f64 (a 1), .float .f64 (a 2), .float .f64 s18, .float .f64 (a 4), .float .f64 (a 5)] 33) := by show Blk v19 (v14.heap.size) _ _; rw [hv]; exact (Blk.set (Blk.drewN B_u.out _) _ _ rfl)
    replace HO : Hid (Below w.heap.size w v19) := by show Below w.heap.size w v19; rw [hv]; exact (Below.setCell (below_drewN HO.out _) low_u.out _)
    clear hv
    obtain ⟨s20, q20, h20, F20⟩ := flop .mul (by simp) (F2.out) ((H.out.1.h 4 (by decide))) v19
    replace F20 : Hid _ := F20
    obtain ⟨s21, q21, h21, F21⟩ := flop .mul (by simp) (F13.out) ((H.out.2.1.h 4 (by decide))) (v19.drewN (q20))
    replace F21 : Hid _ := F21
    obtain ⟨s22, q22, h22, F22⟩ := flop .add (by simp) (F20.out) (F21.out) (v19.drewN (q20 + q21))
    replace F22 : Hid _ := F22
    have a_0 := B_a.out.cell (j := 0) rfl
    have a_1 := B_a.out.cell (j := 1) rfl
    have a_2 := B_a.out.cell (j := 2) rfl
    have a_3 := B_a.out.cell (j := 3) rfl
    have a_4 := B_a.out.cell (j := 4) rfl
    have a_5 := B_a.out.cell (j := 5) rfl
    have a_f := B_a.out.frozen
    have a_z := B_a.out.lt
    have b_0 := B_b.out.cell (j := 0) rfl
    have b_1 := B_b.out.cell (j := 1) rfl
    have b_2 := B_b.out.cell (j := 2) rfl
    have b_3 := B_b.out.cell (j := 3) rfl
    have b_4 := B_b.out.cell (j := 4) rfl
    have b_5 := B_b.out.cell (j := 5) rfl
    have b_f := B_b.out.frozen
    have b_z := B_b.out.lt
    have u_0 := B_u.out.cell (j := 0) rfl
    have u_1 := B_u.out.cell (j := 1) rfl
    have u_2 := B_u.out.cell (j := 2) rfl
    have u_3 := B_u.out.cell (j := 3) rfl
    have u_4 := B_u.out.cell (j := 4) rfl
    have u_5 := B_u.out.cell (j := 5) rfl
    have u_f := B_u.out.frozen
    have u_z := B_u.out.lt
    go_upto_region 10 with fail
    clear a_0 a_1 a_2 a_3 a_4 a_5 a_f a_z b_0 b_1 b_2 b_3 b_4 b_5 b_f b_z u_0 u_1 u_2 u_3 u_4 u_5 u_f u_z
    obtain ⟨v23, hv⟩ : ∃ X, X = ((v19.drewN (q20 + q21 + q22)).setCell ⟨v14.heap.size, 4, none⟩ (.float .f64 s22)) := ⟨_, rfl⟩
    rw [← hv]
    clear h20 h21 h22
    replace B_a : Hid (Blk v23 (w.heap.size) #[.float .f64 (a 0), .float .f64 (a 1), .float .f64 (a 2), .float .f64 (a 3), .float .f64 (a 4), .float .f64 (a 5)] 33) := by show Blk v23 (w.heap.size) _ _; rw [hv]; exact (Blk.setOther (Blk.drewN B_a.out _) ne_a_u.out _)
    replace B_b : Hid (Blk v23 (w.heap.size + 1) #[.float .f64 (b 0), .float .f64 (b 1), .float .f64 (b 2), .float .f64 (b 3), .float .f64 (b 4), .float .f64 (b 5)] 33) := by show Blk v23 (w.heap.size + 1) _ _; rw [hv]; exact (Blk.setOther (Blk.drewN B_b.out _) ne_b_u.out _)
    replace B_r : Hid (Blk v23 (w.heap.size + 1 + 1) #[.int .i64 0, .float .f64 0, .float .f64 0, .float .f64 0, .float .f64 0, .float .f64 0, .float .f64 0] 46) := by show Blk v23 (w.heap.size + 1 + 1) _ _; rw [hv]; exact (Blk.setOther (Blk.drewN B_r.out _) ne_r_u.out _)
    replace B_u : Hid (Blk v23 (v14.heap.size) #[.float .f64 (a 0), .float .f64 (a 1), .float .f64 (a 2), .float .f64 s18, .float .f64 s22, .float .f64 (a 5)] 33) := by show Blk v23 (v14.heap.size) _ _; rw [hv]; exact (Blk.set (Blk.drewN B_u.out _) _ _ rfl)
    replace HO : Hid (Below w.heap.size w v23) := by show Below w.heap.size w v23; rw [hv]; exact (Below.setCell (below_drewN HO.out _) low_u.out _)
    clear hv
    obtain ⟨s24, q24, h24, F24⟩ := flop .mul (by simp) (F2.out) ((H.out.1.h 5 (by decide))) v23
    replace F24 : Hid _ := F24
    obtain ⟨s25, q25, h25, F25⟩ := flop .mul (by simp) (F13.out) ((H.out.2.1.h 5 (by decide))) (v23.drewN (q24))
    replace F25 : Hid _ := F25
    obtain ⟨s26, q26, h26, F26⟩ := flop .add (by simp) (F24.out) (F25.out) (v23.drewN (q24 + q25))
    replace F26 : Hid _ := F26
    have a_0 := B_a.out.cell (j := 0) rfl
    have a_1 := B_a.out.cell (j := 1) rfl
    have a_2 := B_a.out.cell (j := 2) rfl
    have a_3 := B_a.out.cell (j := 3) rfl
    have a_4 := B_a.out.cell (j := 4) rfl
    have a_5 := B_a.out.cell (j := 5) rfl
    have a_f := B_a.out.frozen
    have a_z := B_a.out.lt
    have b_0 := B_b.out.cell (j := 0) rfl
    have b_1 := B_b.out.cell (j := 1) rfl
    have b_2 := B_b.out.cell (j := 2) rfl
    have b_3 := B_b.out.cell (j := 3) rfl
    have b_4 := B_b.out.cell (j := 4) rfl
    have b_5 := B_b.out.cell (j := 5) rfl
    have b_f := B_b.out.frozen
    have b_z := B_b.out.lt
    have u_0 := B_u.out.cell (j := 0) rfl
    have u_1 := B_u.out.cell (j := 1) rfl
    have u_2 := B_u.out.cell (j := 2) rfl
    have u_3 := B_u.out.cell (j := 3) rfl
    have u_4 := B_u.out.cell (j := 4) rfl
    have u_5 := B_u.out.cell (j := 5) rfl
    have u_f := B_u.out.frozen
    have u_z := B_u.out.lt
    go_upto_region 11 with fail
    clear a_0 a_1 a_2 a_3 a_4 a_5 a_f a_z b_0 b_1 b_2 b_3 b_4 b_5 b_f b_z u_0 u_1 u_2 u_3 u_4 u_5 u_f u_z
    obtain ⟨v27, hv⟩ : ∃ X, X = ((v23.drewN (q24 + q25 + q26)).setCell ⟨v14.heap.size, 5, none⟩ (.float .f64 s26)) := ⟨_, rfl⟩
    rw [← hv]
    clear h24 h25 h26
    replace B_a : Hid (Blk v27 (w.heap.size) #[.float .f64 (a 0), .float .f64 (a 1), .float .f64 (a 2), .float .f64 (a 3), .float .f64 (a 4), .float .f64 (a 5)] 33) := by show Blk v27 (w.heap.size) _ _; rw [hv]; exact (Blk.setOther (Blk.drewN B_a.out _) ne_a_u.out _)
    replace B_b : Hid (Blk v27 (w.heap.size + 1) #[.float .f64 (b 0), .float .f64 (b 1), .float .f64 (b 2), .float .f64 (b 3), .float .f64 (b 4), .float .f64 (b 5)] 33) := by show Blk v27 (w.heap.size + 1) _ _; rw [hv]; exact (Blk.setOther (Blk.drewN B_b.out _) ne_b_u.out _)
    replace B_r : Hid (Blk v27 (w.heap.size + 1 + 1) #[.int .i64 0, .float .f64 0, .float .f64 0, .float .f64 0, .float .f64 0, .float .f64 0, .float .f64 0] 46) := by show Blk v27 (w.heap.size + 1 + 1) _ _; rw [hv]; exact (Blk.setOther (Blk.drewN B_r.out _) ne_r_u.out _)
    replace B_u : Hid (Blk v27 (v14.heap.size) #[.float .f64 (a 0), .float .f64 (a 1), .float .f64 (a 2), .float .f64 s18, .float .f64 s22, .float .f64 s26] 33) := by show Blk v27 (v14.heap.size) _ _; rw [hv]; exact (Blk.set (Blk.drewN B_u.out _) _ _ rfl)
    replace HO : Hid (Below w.heap.size w v27) := by show Below w.heap.size w v27; rw [hv]; exact (Below.setCell (below_drewN HO.out _) low_u.out _)
    clear hv
    have u_0 := B_u.out.cell (j := 0) rfl
    have u_1 := B_u.out.cell (j := 1) rfl
    have u_2 := B_u.out.cell (j := 2) rfl
    have u_3 := B_u.out.cell (j := 3) rfl
    have u_4 := B_u.out.cell (j := 4) rfl
    have u_5 := B_u.out.cell (j := 5) rfl
    have u_f := B_u.out.frozen
    have u_z := B_u.out.lt
    have r_0 := B_r.out.cell (j := 0) rfl
    have r_1 := B_r.out.cell (j := 1) rfl
    have r_2 := B_r.out.cell (j := 2) rfl
    have r_3 := B_r.out.cell (j := 3) rfl
    have r_4 := B_r.out.cell (j := 4) rfl
    have r_5 := B_r.out.cell (j := 5) rfl
    have r_6 := B_r.out.cell (j := 6) rfl
    have r_f := B_r.out.frozen
    have r_z := B_r.out.lt
    go_wp2
    refine bodyPost_ret (v := Qv (codeOf (some (bendR A B P O))) (r6 (a 0) (a 1) (a 2) (s18) (s22) (s26))) (by simp [results, Try.results15, go_sem, u_0, u_1, u_2, u_3, u_4, u_5, u_f, u_z, r_0, r_1, r_2, r_3, r_4, r_5, r_6, r_f, r_z] <;> (repeat' (first | rfl | apply And.intro))) rfl ⟨_, by rw [hD.out], by rw [hD.out]; exact rc_mk ((H.out.1.h 0 (by decide))) ((H.out.1.h 1 (by decide))) ((H.out.1.h 2 (by decide))) (F18.out) (F22.out) (F26.out), ?_⟩
    exact (Below.setCell (Below.setCell (Below.setCell (Below.setCell (Below.setCell (Below.setCell (Below.setCell HO.out low_r.out _) low_r.out _) low_r.out _) low_r.out _) low_r.out _) low_r.out _) low_r.out _)
  · skip
    replace hS : geO (bendS A B P O) zO = false := by simpa using hS
    rw [hS] at hge
    have hD : Hid (bendC A B P O = none) := by show bendC A B P O = _; unfold bendC; rw [if_neg (by rw [hS]; simp)]
    clear hS
    have r_0 := B_r.out.cell (j := 0) rfl
    have r_1 := B_r.out.cell (j := 1) rfl
    have r_2 := B_r.out.cell (j := 2) rfl
    have r_3 := B_r.out.cell (j := 3) rfl
    have r_4 := B_r.out.cell (j := 4) rfl
    have r_5 := B_r.out.cell (j := 5) rfl
    have r_6 := B_r.out.cell (j := 6) rfl
    have r_f := B_r.out.frozen
    have r_z := B_r.out.lt
    go_wp2
    refine bodyPost_ret (v := Qv (codeOf (none : Option (Nat → Option Nat))) (r6 0 0 0 0 0 0)) (by simp [results, Try.results15, go_sem, r_0, r_1, r_2, r_3, r_4, r_5, r_6, r_f, r_z] <;> (repeat' (first | rfl | apply And.intro))) rfl ⟨_, by rw [hD.out], by rw [hD.out]; exact ⟨fun j hj => match j, hj with | 0, _ => fc_zero | 1, _ => fc_zero | 2, _ => fc_zero | 3, _ => fc_zero | 4, _ => fc_zero | 5, _ => fc_zero⟩, ?_⟩
    exact (Below.setCell (Below.setCell (Below.setCell (Below.setCell (Below.setCell (Below.setCell (Below.setCell HO.out low_r.out _) low_r.out _) low_r.out _) low_r.out _) low_r.out _) low_r.out _) low_r.out _)
end Go.Proofs.Ytbcidfmfkmeinaa
