/- The sag: the specification's, and a conic face's; a plane face's; which of them a face is. -/
import Derived.Test.YtbcidfmfkmeinaaPn
namespace Go.Proofs.Ytbcidfmfkmeinaa
open Go.RowKit Fl
set_option linter.unusedVariables false
set_option linter.unusedSimpArgs false
theorem iSquare_any {x y : Nat} {X Y : Option Nat} (hx : Fc x X) (hy : Fc y Y) (w : World) : FV 32 #[.float .f64 x, .float .f64 y] w (sqr X Y) := by
  unfold FV
  have hmul := mul_run
  have hadd := add_run
  go_enter Try.func32, Try.ntmps32
  go_wp2
  go_ret
  refine ⟨_, rfl, fc_op _ (fc_op _ hx hx _) (fc_op _ hy hy _) _, ?_⟩
  repeat (first | (refine below_opW ?_) | exact Below.refl _ _)
theorem fin_le {x : Nat} {o : Option Nat} (h : Fc x o) : (FloatKind.f64.format.order (rg x) 9218868437227405311 == some .lt || FloatKind.f64.format.order (rg x) 9218868437227405311 == some .eq) = finO o := by
  rw [← h.c]
  have hx : W64 (rg x) := by unfold W64; simp only [rg]; omega
  by_cases n : Num x
  · have hr : rg (rg x) = rg x := by simp only [rg]; omega
    have hs : sg (rg x) = false := by simp only [sg, rg]; simp; omega
    have ho := order_num (x := rg x) (y := 9218868437227405311) hx (by decide) (rg_num.2 n) (by decide)
    rw [hr, hs, show sg 9218868437227405311 = false by decide, show rg 9218868437227405311 = 9218868437227405311 by decide] at ho
    have ho' : FloatKind.f64.format.order (rg x) 9218868437227405311 = some (compare (sv false (rg x)) (sv false 9218868437227405311)) := ho
    rw [ho', show cl x = some x by simp [cl, n]]
    simp only [finO, sv, Bool.false_eq_true, if_false]
    by_cases f : rg x < 9218868437227405312
    · rcases Nat.lt_or_ge (rg x) 9218868437227405311 with g | g
      · have := vv_lt.2 g
        have e : compare (vv (rg x) : Int) (vv 9218868437227405311 : Int) = .lt := Int.compare_eq_lt.2 (by omega)
        rw [e]; simp; omega
      · have g2 : rg x = 9218868437227405311 := by omega
        rw [g2]
        have e : compare (vv 9218868437227405311 : Int) (vv 9218868437227405311 : Int) = .eq := Int.compare_eq_eq.2 rfl
        rw [e]; decide
    · have := vv_lt.2 (show 9218868437227405311 < rg x by omega)
      have e : compare (vv (rg x) : Int) (vv 9218868437227405311 : Int) = .gt := Int.compare_eq_gt.2 (by omega)
      rw [e]; simp; omega
  · have n2 : ¬ Num (rg x) := fun h => n (rg_num.1 h)
    have ho : FloatKind.f64.format.order (rg x) 9218868437227405311 = none := order_nan_l _ hx n2
    rw [ho, show cl x = none by simp [cl, n]]; rfl
theorem iFin_any {x : Nat} {o : Option Nat} (h : Fc x o) (w : World) : Calls Try.prog 45 #[.float .f64 x] w fun e w' => e = .returned (.bool (finO o)) ∧ Below w.heap.size w w' := by
  have hl := fin_le h
  have H : Hid (Tells 34 x (rg x)) := mAbs_any h.lx
  generalize rg x = r at *
  clear h
  go_enter Try.func45, Try.ntmps45
  go_wp2_with fail
  refine (H.out _).mono ?_
  rintro e w1 ⟨rfl, rfl⟩
  go_wp2
  go_ret
  exact ⟨rfl, Below.refl _ _⟩
set_option maxRecDepth 20000 in
set_option maxHeartbeats 3200000 in
theorem sSag_any {g : Nat → Nat} {G : Nat → Option Nat} {x y : Nat} {X Y : Option Nat} (hg : Gc g G) (hx : Fc x X) (hy : Fc y Y) (w : World) : SV 26 #[Gv g, .float .f64 x, .float .f64 y] w (sagC (G 0) (G 1) (sqr X Y)) := by
  unfold SV
  have H : Hid (Gc g G ∧ Fc x X ∧ Fc y Y) := ⟨hg, hx, hy⟩
  clear hg hx hy
  have hst := st64
  go_enter Try.func26, Try.ntmps26
  have HO : Hid (Below w.heap.size w w) := Below.refl _ _
  go_upto_region 1 with fail
  obtain ⟨v1, hv⟩ : ∃ X, X = ((w.alloc (.cells #[.float .f64 (g 0), .float .f64 (g 1), .float .f64 (g 2), .float .f64 (g 3), .float .f64 (g 4)] 41)).alloc (.cells #[.int .i64 0, .float .f64 0, .float .f64 0] 58)) := ⟨_, rfl⟩
  rw [← hv]
  have ne_a_res : Hid (w.heap.size ≠ w.heap.size + 1) := by show (w.heap.size : Nat) ≠ w.heap.size + 1; omega
  have B_a : Hid (Blk v1 (w.heap.size) #[.float .f64 (g 0), .float .f64 (g 1), .float .f64 (g 2), .float .f64 (g 3), .float .f64 (g 4)] 41) := by show Blk v1 (w.heap.size) _ _; rw [hv]; exact (Blk.alloc (Blk.new (by simp)) _)
  have low_a : Hid (w.heap.size ≤ w.heap.size) := by show w.heap.size ≤ w.heap.size; have := HO.out.size; omega
  have B_res : Hid (Blk v1 (w.heap.size + 1) #[.int .i64 0, .float .f64 0, .float .f64 0] 58) := by show Blk v1 (w.heap.size + 1) _ _; rw [hv]; exact (Blk.new (by simp))
  have low_res : Hid (w.heap.size ≤ w.heap.size + 1) := by show w.heap.size ≤ w.heap.size + 1; have := HO.out.size; omega
  replace HO : Hid (Below w.heap.size w v1) := by show Below w.heap.size w v1; rw [hv]; exact (below_new (below_new HO.out _) _)
  clear hv
  obtain ⟨s2, q2, h2, F2⟩ := flop .mul (by simp) (H.out.2.1) (H.out.2.1) v1
  replace F2 : Hid _ := F2
  obtain ⟨s3, q3, h3, F3⟩ := flop .mul (by simp) (H.out.2.2) (H.out.2.2) (v1.drewN (q2))
  replace F3 : Hid _ := F3
  obtain ⟨s4, q4, h4, F4⟩ := flop .add (by simp) (F2.out) (F3.out) (v1.drewN (q2 + q3))
  replace F4 : Hid _ := F4
  go_upto_region 2 with fail
  obtain ⟨v5, hv⟩ : ∃ X, X = (v1.drewN (q2 + q3 + q4)) := ⟨_, rfl⟩
  rw [← hv]
  clear h2 h3 h4
  replace B_a : Hid (Blk v5 (w.heap.size) #[.float .f64 (g 0), .float .f64 (g 1), .float .f64 (g 2), .float .f64 (g 3), .float .f64 (g 4)] 41) := by show Blk v5 (w.heap.size) _ _; rw [hv]; exact (Blk.drewN B_a.out _)
  replace B_res : Hid (Blk v5 (w.heap.size + 1) #[.int .i64 0, .float .f64 0, .float .f64 0] 58) := by show Blk v5 (w.heap.size + 1) _ _; rw [hv]; exact (Blk.drewN B_res.out _)
  replace HO : Hid (Below w.heap.size w v5) := by show Below w.heap.size w v5; rw [hv]; exact (below_drewN HO.out _)
  clear hv
  obtain ⟨s6, q6, h6, F6⟩ := flop .add (by simp) (fc_one) ((H.out.1.h 1 (by decide))) v5
  replace F6 : Hid _ := F6
  have a_0 := B_a.out.cell (j := 0) rfl
  have a_1 := B_a.out.cell (j := 1) rfl
  have a_2 := B_a.out.cell (j := 2) rfl
  have a_3 := B_a.out.cell (j := 3) rfl
  have a_4 := B_a.out.cell (j := 4) rfl
  have a_f := B_a.out.frozen
  have a_z := B_a.out.lt
  go_upto_region 3 with fail
  clear a_0 a_1 a_2 a_3 a_4 a_f a_z
  obtain ⟨v7, hv⟩ : ∃ X, X = (v5.drewN (q6)) := ⟨_, rfl⟩
  rw [← hv]
  clear h6
  replace B_a : Hid (Blk v7 (w.heap.size) #[.float .f64 (g 0), .float .f64 (g 1), .float .f64 (g 2), .float .f64 (g 3), .float .f64 (g 4)] 41) := by show Blk v7 (w.heap.size) _ _; rw [hv]; exact (Blk.drewN B_a.out _)
  replace B_res : Hid (Blk v7 (w.heap.size + 1) #[.int .i64 0, .float .f64 0, .float .f64 0] 58) := by show Blk v7 (w.heap.size + 1) _ _; rw [hv]; exact (Blk.drewN B_res.out _)
  replace HO : Hid (Below w.heap.size w v7) := by show Below w.heap.size w v7; rw [hv]; exact (below_drewN HO.out _)
  clear hv
  obtain ⟨s8, q8, h8, F8⟩ := flop .mul (by simp) (F6.out) ((H.out.1.h 0 (by decide))) v7
  replace F8 : Hid _ := F8
  have a_0 := B_a.out.cell (j := 0) rfl
  have a_1 := B_a.out.cell (j := 1) rfl
  have a_2 := B_a.out.cell (j := 2) rfl
  have a_3 := B_a.out.cell (j := 3) rfl
  have a_4 := B_a.out.cell (j := 4) rfl
  have a_f := B_a.out.frozen
  have a_z := B_a.out.lt
  go_upto_region 4 with fail
  clear a_0 a_1 a_2 a_3 a_4 a_f a_z
  obtain ⟨v9, hv⟩ : ∃ X, X = (v7.drewN (q8)) := ⟨_, rfl⟩
  rw [← hv]
  clear h8
  replace B_a : Hid (Blk v9 (w.heap.size) #[.float .f64 (g 0), .float .f64 (g 1), .float .f64 (g 2), .float .f64 (g 3), .float .f64 (g 4)] 41) := by show Blk v9 (w.heap.size) _ _; rw [hv]; exact (Blk.drewN B_a.out _)
  replace B_res : Hid (Blk v9 (w.heap.size + 1) #[.int .i64 0, .float .f64 0, .float .f64 0] 58) := by show Blk v9 (w.heap.size + 1) _ _; rw [hv]; exact (Blk.drewN B_res.out _)
  replace HO : Hid (Below w.heap.size w v9) := by show Below w.heap.size w v9; rw [hv]; exact (below_drewN HO.out _)
  clear hv
  obtain ⟨s10, q10, h10, F10⟩ := flop .mul (by simp) (F8.out) ((H.out.1.h 0 (by decide))) v9
  replace F10 : Hid _ := F10
  have a_0 := B_a.out.cell (j := 0) rfl
  have a_1 := B_a.out.cell (j := 1) rfl
  have a_2 := B_a.out.cell (j := 2) rfl
  have a_3 := B_a.out.cell (j := 3) rfl
  have a_4 := B_a.out.cell (j := 4) rfl
  have a_f := B_a.out.frozen
  have a_z := B_a.out.lt
  go_upto_region 5 with fail
  clear a_0 a_1 a_2 a_3 a_4 a_f a_z
  obtain ⟨v11, hv⟩ : ∃ X, X = (v9.drewN (q10)) := ⟨_, rfl⟩
  rw [← hv]
  clear h10
  replace B_a : Hid (Blk v11 (w.heap.size) #[.float .f64 (g 0), .float .f64 (g 1), .float .f64 (g 2), .float .f64 (g 3), .float .f64 (g 4)] 41) := by show Blk v11 (w.heap.size) _ _; rw [hv]; exact (Blk.drewN B_a.out _)
  replace B_res : Hid (Blk v11 (w.heap.size + 1) #[.int .i64 0, .float .f64 0, .float .f64 0] 58) := by show Blk v11 (w.heap.size + 1) _ _; rw [hv]; exact (Blk.drewN B_res.out _)
  replace HO : Hid (Below w.heap.size w v11) := by show Below w.heap.size w v11; rw [hv]; exact (below_drewN HO.out _)
  clear hv
  obtain ⟨s12, q12, h12, F12⟩ := flop .mul (by simp) (F10.out) (F4.out) v11
  replace F12 : Hid _ := F12
  obtain ⟨s13, q13, h13, F13⟩ := flop .sub (by simp) (fc_one) (F12.out) (v11.drewN (q12))
  replace F13 : Hid _ := F13
  go_upto_region 6 with fail
  obtain ⟨v14, hv⟩ : ∃ X, X = (v11.drewN (q12 + q13)) := ⟨_, rfl⟩
  rw [← hv]
  clear h12 h13
  replace B_a : Hid (Blk v14 (w.heap.size) #[.float .f64 (g 0), .float .f64 (g 1), .float .f64 (g 2), .float .f64 (g 3), .float .f64 (g 4)] 41) := by show Blk v14 (w.heap.size) _ _; rw [hv]; exact (Blk.drewN B_a.out _)
  replace B_res : Hid (Blk v14 (w.heap.size + 1) #[.int .i64 0, .float .f64 0, .float .f64 0] 58) := by show Blk v14 (w.heap.size + 1) _ _; rw [hv]; exact (Blk.drewN B_res.out _)
  replace HO : Hid (Below w.heap.size w v14) := by show Below w.heap.size w v14; rw [hv]; exact (below_drewN HO.out _)
  clear hv
  have hge := ge_fc (F13.out) fc_zero
  replace hge : _ = geO (sagU (G 0) (G 1) (sqr X Y)) zO := hge
  by_cases hS : geO (sagU (G 0) (G 1) (sqr X Y)) zO = true
  · skip
    rw [hS] at hge
    have hD : Hid (sagC (G 0) (G 1) (sqr X Y) = some (opC .quo (opC .mul (G 0) (sqr X Y)) (opC .add oneO (sqO (sagU (G 0) (G 1) (sqr X Y)))), sqO (sagU (G 0) (G 1) (sqr X Y)))) := by show sagC (G 0) (G 1) (sqr X Y) = _; unfold sagC; rw [if_pos hS]
    clear hS
    go_upto_region 8 with fail
    clear hge
    go_wp2_with fail
    refine (sSqrt_fc (F13.out) _).mono ?_
    rintro e v15 ⟨rt, rfl, hrt, hb⟩
    replace B_a : Hid (Blk v15 (w.heap.size) #[.float .f64 (g 0), .float .f64 (g 1), .float .f64 (g 2), .float .f64 (g 3), .float .f64 (g 4)] 41) := by show Blk v15 (w.heap.size) _ _; exact Blk.old B_a.out hb
    replace B_res : Hid (Blk v15 (w.heap.size + 1) #[.int .i64 0, .float .f64 0, .float .f64 0] 58) := by show Blk v15 (w.heap.size + 1) _ _; exact Blk.old B_res.out hb
    replace HO : Hid (Below w.heap.size w v15) := box_step HO.out hb (Nat.le_refl _)
    clear hb
    replace hrt : Hid _ := hrt
    go_upto_region 9 with fail
    obtain ⟨s16, q16, h16, F16⟩ := flop .mul (by simp) ((H.out.1.h 0 (by decide))) (F4.out) v15
    replace F16 : Hid _ := F16
    obtain ⟨s17, q17, h17, F17⟩ := flop .add (by simp) (fc_one) (hrt.out) (v15.drewN (q16))
    replace F17 : Hid _ := F17
    obtain ⟨s18, q18, h18, F18⟩ := flop .quo (by simp) (F16.out) (F17.out) (v15.drewN (q16 + q17))
    replace F18 : Hid _ := F18
    have a_0 := B_a.out.cell (j := 0) rfl
    have a_1 := B_a.out.cell (j := 1) rfl
    have a_2 := B_a.out.cell (j := 2) rfl
    have a_3 := B_a.out.cell (j := 3) rfl
    have a_4 := B_a.out.cell (j := 4) rfl
    have a_f := B_a.out.frozen
    have a_z := B_a.out.lt
    have res_0 := B_res.out.cell (j := 0) rfl
    have res_1 := B_res.out.cell (j := 1) rfl
    have res_2 := B_res.out.cell (j := 2) rfl
    have res_f := B_res.out.frozen
    have res_z := B_res.out.lt
    go_wp2
    refine bodyPost_ret (v := Hv 0 (s18) (rt)) (by simp [results, Try.results26, go_sem, a_0, a_1, a_2, a_3, a_4, a_f, a_z, res_0, res_1, res_2, res_f, res_z] <;> (repeat' (first | rfl | apply And.intro))) rfl ⟨_, _, by rw [hD.out]; rfl, by rw [hD.out]; exact ⟨F18.out, hrt.out⟩, ?_⟩
    exact (Below.setCell (Below.setCell (Below.setCell (below_drewN HO.out _) low_res.out _) low_res.out _) low_res.out _)
  · skip
    replace hS : geO (sagU (G 0) (G 1) (sqr X Y)) zO = false := by simpa using hS
    rw [hS] at hge
    have hD : Hid (sagC (G 0) (G 1) (sqr X Y) = none) := by show sagC (G 0) (G 1) (sqr X Y) = _; unfold sagC; rw [if_neg (by rw [hS]; simp)]
    clear hS
    have res_0 := B_res.out.cell (j := 0) rfl
    have res_1 := B_res.out.cell (j := 1) rfl
    have res_2 := B_res.out.cell (j := 2) rfl
    have res_f := B_res.out.frozen
    have res_z := B_res.out.lt
    go_wp2
    refine bodyPost_ret (v := Hv 4 0 0) (by simp [results, Try.results26, go_sem, res_0, res_1, res_2, res_f, res_z] <;> (repeat' (first | rfl | apply And.intro))) rfl ⟨_, _, by rw [hD.out]; rfl, by rw [hD.out]; exact ⟨fc_zero, fc_zero⟩, ?_⟩
    exact (Below.setCell (Below.setCell (Below.setCell HO.out low_res.out _) low_res.out _) low_res.out _)
set_option maxRecDepth 20000 in
set_option maxHeartbeats 3200000 in
theorem iConic_any {b k r : Nat} {B K R : Option Nat} (hb0 : Fc b B) (hk : Fc k K) (hr : Fc r R) (w : World) : SV 70 #[.agg #[.float .f64 b, .float .f64 k], .float .f64 r] w (sagC B K R) := by
  unfold SV
  have H : Hid (Fc b B ∧ Fc k K ∧ Fc r R) := ⟨hb0, hk, hr⟩
  clear hb0 hk hr
  have hst := st64
  go_enter Try.func70, Try.ntmps70
  have HO : Hid (Below w.heap.size w w) := Below.refl _ _
  go_upto_region 1 with fail
  obtain ⟨v1, hv⟩ : ∃ X, X = ((w.alloc (.cells #[.float .f64 b, .float .f64 k] 81)).alloc (.cells #[.int .i64 0, .float .f64 0, .float .f64 0] 58)) := ⟨_, rfl⟩
  rw [← hv]
  have ne_a_res : Hid (w.heap.size ≠ w.heap.size + 1) := by show (w.heap.size : Nat) ≠ w.heap.size + 1; omega
  have B_a : Hid (Blk v1 (w.heap.size) #[.float .f64 b, .float .f64 k] 81) := by show Blk v1 (w.heap.size) _ _; rw [hv]; exact (Blk.alloc (Blk.new (by simp)) _)
  have low_a : Hid (w.heap.size ≤ w.heap.size) := by show w.heap.size ≤ w.heap.size; have := HO.out.size; omega
  have B_res : Hid (Blk v1 (w.heap.size + 1) #[.int .i64 0, .float .f64 0, .float .f64 0] 58) := by show Blk v1 (w.heap.size + 1) _ _; rw [hv]; exact (Blk.new (by simp))
  have low_res : Hid (w.heap.size ≤ w.heap.size + 1) := by show w.heap.size ≤ w.heap.size + 1; have := HO.out.size; omega
  replace HO : Hid (Below w.heap.size w v1) := by show Below w.heap.size w v1; rw [hv]; exact (below_new (below_new HO.out _) _)
  clear hv
  obtain ⟨s2, q2, h2, F2⟩ := flop .add (by simp) (fc_one) (H.out.2.1) v1
  replace F2 : Hid _ := F2
  obtain ⟨s3, q3, h3, F3⟩ := flop .mul (by simp) (F2.out) (H.out.1) (v1.drewN (q2))
  replace F3 : Hid _ := F3
  obtain ⟨s4, q4, h4, F4⟩ := flop .mul (by simp) (F3.out) (H.out.1) (v1.drewN (q2 + q3))
  replace F4 : Hid _ := F4
  obtain ⟨s5, q5, h5, F5⟩ := flop .mul (by simp) (F4.out) (H.out.2.2) (v1.drewN (q2 + q3 + q4))
  replace F5 : Hid _ := F5
  obtain ⟨s6, q6, h6, F6⟩ := flop .sub (by simp) (fc_one) (F5.out) (v1.drewN (q2 + q3 + q4 + q5))
  replace F6 : Hid _ := F6
  have a_0 := B_a.out.cell (j := 0) rfl
  have a_1 := B_a.out.cell (j := 1) rfl
  have a_f := B_a.out.frozen
  have a_z := B_a.out.lt
  go_upto_region 2 with fail
  clear a_0 a_1 a_f a_z
  obtain ⟨v7, hv⟩ : ∃ X, X = (v1.drewN (q2 + q3 + q4 + q5 + q6)) := ⟨_, rfl⟩
  rw [← hv]
  clear h2 h3 h4 h5 h6
  replace B_a : Hid (Blk v7 (w.heap.size) #[.float .f64 b, .float .f64 k] 81) := by show Blk v7 (w.heap.size) _ _; rw [hv]; exact (Blk.drewN B_a.out _)
  replace B_res : Hid (Blk v7 (w.heap.size + 1) #[.int .i64 0, .float .f64 0, .float .f64 0] 58) := by show Blk v7 (w.heap.size + 1) _ _; rw [hv]; exact (Blk.drewN B_res.out _)
  replace HO : Hid (Below w.heap.size w v7) := by show Below w.heap.size w v7; rw [hv]; exact (below_drewN HO.out _)
  clear hv
  have hge := ge_fc (F6.out) fc_zero
  replace hge : _ = geO (sagU B K R) zO := hge
  by_cases hS : geO (sagU B K R) zO = true
  · skip
    rw [hS] at hge
    have hD : Hid (sagC B K R = some (opC .quo (opC .mul B R) (opC .add oneO (sqO (sagU B K R))), sqO (sagU B K R))) := by show sagC B K R = _; unfold sagC; rw [if_pos hS]
    clear hS
    go_upto_region 4 with fail
    clear hge
    go_wp2_with fail
    refine (iSqrt_fc (F6.out) _).mono ?_
    rintro e v8 ⟨rt, rfl, hrt, hb⟩
    replace B_a : Hid (Blk v8 (w.heap.size) #[.float .f64 b, .float .f64 k] 81) := by show Blk v8 (w.heap.size) _ _; exact Blk.old B_a.out hb
    replace B_res : Hid (Blk v8 (w.heap.size + 1) #[.int .i64 0, .float .f64 0, .float .f64 0] 58) := by show Blk v8 (w.heap.size + 1) _ _; exact Blk.old B_res.out hb
    replace HO : Hid (Below w.heap.size w v8) := box_step HO.out hb (Nat.le_refl _)
    clear hb
    replace hrt : Hid _ := hrt
    go_upto_region 5 with fail
    obtain ⟨s9, q9, h9, F9⟩ := flop .mul (by simp) (H.out.1) (H.out.2.2) v8
    replace F9 : Hid _ := F9
    obtain ⟨s10, q10, h10, F10⟩ := flop .add (by simp) (fc_one) (hrt.out) (v8.drewN (q9))
    replace F10 : Hid _ := F10
    obtain ⟨s11, q11, h11, F11⟩ := flop .quo (by simp) (F9.out) (F10.out) (v8.drewN (q9 + q10))
    replace F11 : Hid _ := F11
    have a_0 := B_a.out.cell (j := 0) rfl
    have a_1 := B_a.out.cell (j := 1) rfl
    have a_f := B_a.out.frozen
    have a_z := B_a.out.lt
    have res_0 := B_res.out.cell (j := 0) rfl
    have res_1 := B_res.out.cell (j := 1) rfl
    have res_2 := B_res.out.cell (j := 2) rfl
    have res_f := B_res.out.frozen
    have res_z := B_res.out.lt
    go_wp2
    refine bodyPost_ret (v := Hv 0 (s11) (rt)) (by simp [results, Try.results70, go_sem, a_0, a_1, a_f, a_z, res_0, res_1, res_2, res_f, res_z] <;> (repeat' (first | rfl | apply And.intro))) rfl ⟨_, _, by rw [hD.out]; rfl, by rw [hD.out]; exact ⟨F11.out, hrt.out⟩, ?_⟩
    exact (Below.setCell (Below.setCell (Below.setCell (below_drewN HO.out _) low_res.out _) low_res.out _) low_res.out _)
  · skip
    replace hS : geO (sagU B K R) zO = false := by simpa using hS
    rw [hS] at hge
    have hD : Hid (sagC B K R = none) := by show sagC B K R = _; unfold sagC; rw [if_neg (by rw [hS]; simp)]
    clear hS
    have res_0 := B_res.out.cell (j := 0) rfl
    have res_1 := B_res.out.cell (j := 1) rfl
    have res_2 := B_res.out.cell (j := 2) rfl
    have res_f := B_res.out.frozen
    have res_z := B_res.out.lt
    go_wp2
    refine bodyPost_ret (v := Hv 4 0 0) (by simp [results, Try.results70, go_sem, res_0, res_1, res_2, res_f, res_z] <;> (repeat' (first | rfl | apply And.intro))) rfl ⟨_, _, by rw [hD.out]; rfl, by rw [hD.out]; exact ⟨fc_zero, fc_zero⟩, ?_⟩
    exact (Below.setCell (Below.setCell (Below.setCell HO.out low_res.out _) low_res.out _) low_res.out _)
end Go.Proofs.Ytbcidfmfkmeinaa
