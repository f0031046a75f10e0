/- At every code: what FnImages tells of a system and a place that come out of it holds of the program; nothing that was there is changed. -/
import Derived.Test.YtdmjfphmgpkfcaaDo
import Derived.Test.YtdmjfphmgpkfcaaGp
import Derived.Test.YtdmjfphmgpkfcaaPc
import Derived.Test.YtdmjfphmgpkfcaaArgb
import Derived.Test.YtdmjfphmgpkfcaaIz
import Derived.Test.YtdmjfphmgpkfcaaSm
import Derived.Test.YtdmjfphmgpkfcaaJn
import Derived.Handy
import Derived.Deep.RegionHeld3
import Derived.Deep.DeepCutAuto
namespace Go.Proofs.Ytdmjfphmgpkfcaa.LawImages
open Go.ChangeShapes Go.WideShapes Go.ChangeAt Go.RowKit Go.Joins
set_option linter.unusedVariables false

theorem sel_0 (q : Q) : sel 0 q = q := if_pos rfl
set_option maxRecDepth 100000 in
set_option maxHeartbeats 25600000 in
theorem walk {w : World} {v : Value} {nb : Nat} {g : Nat → Int} (h : RdB w v nb g) (hn : nb ≤ 9223372036854775807) (hg : ∀ i, i < nb → 0 ≤ g i ∧ g i ≤ 255) :
    Calls Try.prog 3 #[v] w fun e w' => e = .returned (.bool true) ∧ Below w.heap.size w w' := by
  obtain ⟨ao, cap, rfl⟩ := h.form
  have HG : Hid (RdB w (.slice ao nb cap) nb g ∧ ∀ i, i < nb → 0 ≤ g i ∧ g i ≤ 255) := ⟨h, hg⟩
  clear h hg
  have BG : Hid (∀ w, Calls Try.prog 4 #[.slice ao nb cap] w fun e w' => e = .returned (.bool (decide ((1048576 : Int) < (nb : Int)))) ∧ w = w') := fun w => big_any ao nb cap w
  go_enter Try.func3, Try.ntmps3
  by_cases hb : 1048576 < nb
  · rw [show decide ((1048576 : Int) < (nb : Int)) = true by simp; omega] at BG
    go_wp2_with (first | (go_at_call 4; refine (BG.out _).mono ?_; rintro e w1 ⟨rfl, rfl⟩))
    go_ret
    exact ⟨rfl, Below.refl _ _⟩
  rw [show decide ((1048576 : Int) < (nb : Int)) = false by simp; omega] at BG
  have hn2 : nb ≤ 1000000000000 := by omega
  have HO : Hid (Below w.heap.size w w) := Below.refl _ _
  go_wp2_with fail
  refine (BG.out _).mono ?_
  rintro e wx ⟨rfl, rfl⟩
  clear BG
  go_wp2_with fail
  refine (draw_any HG.out.1 HG.out.2 hn2).mono ?_
  rintro e v1 ⟨m, x, rfl, hb⟩
  replace HO : Hid (Below w.heap.size w v1) := box_step HO.out hb (Nat.le_refl _)
  clear hb
  clear HG hn hn2
  go_upto_region 4 with fail
  obtain ⟨v2, hv⟩ : ∃ Xw, Xw = ((v1.alloc (.cells #[.int .i64 m.A.n, .int .i64 m.A.d, .int .i64 m.B.n, .int .i64 m.B.d, .int .i64 m.C.n, .int .i64 m.C.d, .int .i64 m.D.n, .int .i64 m.D.d] 27)).alloc (.cells #[.int .i64 x.n, .int .i64 x.d] 25)) := ⟨_, rfl⟩
  rw [← hv]
  have ne_m_x : Hid (v1.heap.size ≠ v1.heap.size + 1) := by show (v1.heap.size : Nat) ≠ v1.heap.size + 1; omega
  have B_m : Hid (Blk v2 (v1.heap.size) #[.int .i64 m.A.n, .int .i64 m.A.d, .int .i64 m.B.n, .int .i64 m.B.d, .int .i64 m.C.n, .int .i64 m.C.d, .int .i64 m.D.n, .int .i64 m.D.d] 27) := by show Blk v2 (v1.heap.size) _ _; rw [hv]; exact (Blk.alloc (Blk.new (by simp)) _)
  have low_m : Hid (w.heap.size ≤ v1.heap.size) := by show w.heap.size ≤ v1.heap.size; have := HO.out.size; omega
  have B_x : Hid (Blk v2 (v1.heap.size + 1) #[.int .i64 x.n, .int .i64 x.d] 25) := by show Blk v2 (v1.heap.size + 1) _ _; rw [hv]; exact (Blk.new (by simp))
  have low_x : Hid (w.heap.size ≤ v1.heap.size + 1) := by show w.heap.size ≤ v1.heap.size + 1; have := HO.out.size; omega
  replace HO : Hid (Below w.heap.size w v2) := by show Below w.heap.size w v2; rw [hv]; exact (below_new (below_new HO.out _) _)
  clear hv
  by_cases hi : imC m x = 0
  · skip
    obtain ⟨bk, hbk⟩ : ∃ q, q = nQ (bV m x) := ⟨_, rfl⟩
    obtain ⟨sc, hsc⟩ : ∃ q, q = cV m x := ⟨_, rfl⟩
    obtain ⟨ph, hph⟩ : ∃ q, q = hV m x := ⟨_, rfl⟩
    obtain ⟨pt, hpt⟩ : ∃ q, q = tV m x := ⟨_, rfl⟩
    have SI : Hid (∀ W, Calls Try.prog 6 #[.agg #[.int .i64 m.A.n, .int .i64 m.A.d, .int .i64 m.B.n, .int .i64 m.B.d, .int .i64 m.C.n, .int .i64 m.C.d, .int .i64 m.D.n, .int .i64 m.D.d], .agg #[.int .i64 x.n, .int .i64 x.d]] W fun e w' => e = .returned (.agg #[.int .i64 0, .int .i64 bk.n, .int .i64 bk.d, .int .i64 sc.n, .int .i64 sc.d]) ∧ Below W.heap.size W w') := fun W => by have h := simg m x W; rw [hi, sel_0, sel_0, ← hbk, ← hsc] at h; exact h
    have II : Hid (∀ W, Calls Try.prog 7 #[.agg #[.int .i64 m.A.n, .int .i64 m.A.d, .int .i64 m.B.n, .int .i64 m.B.d, .int .i64 m.C.n, .int .i64 m.C.d, .int .i64 m.D.n, .int .i64 m.D.d], .agg #[.int .i64 x.n, .int .i64 x.d]] W fun e w' => e = .returned (.agg #[.int .i64 0, .int .i64 bk.n, .int .i64 bk.d, .int .i64 sc.n, .int .i64 sc.d]) ∧ Below W.heap.size W w') := fun W => by have h := iimg m x W; rw [hi, sel_0, sel_0, ← hbk, ← hsc] at h; exact h
    have SJ : Hid (∀ W, Calls Try.prog 9 #[.agg #[.int .i64 1, .int .i64 1, .int .i64 x.n, .int .i64 x.d, .int .i64 0, .int .i64 1, .int .i64 1, .int .i64 1], .agg #[.int .i64 m.A.n, .int .i64 m.A.d, .int .i64 m.B.n, .int .i64 m.B.d, .int .i64 m.C.n, .int .i64 m.C.d, .int .i64 m.D.n, .int .i64 m.D.d]] W fun e w' => e = .returned (.agg #[.int .i64 0, .int .i64 m.A.n, .int .i64 m.A.d, .int .i64 ph.n, .int .i64 ph.d, .int .i64 m.C.n, .int .i64 m.C.d, .int .i64 pt.n, .int .i64 pt.d]) ∧ Below W.heap.size W w') := fun W => by have h := sjoin (gapM x) m W; have k := join_front hi; have e := k.2; unfold joinM at e; simp only [Mx.mk.injEq] at e; rw [k.1] at e h; rw [e.1, e.2.1, e.2.2.1, e.2.2.2, ← hph, ← hpt] at h; exact h
    obtain ⟨hm, hx, _⟩ := im_zero hi
    have HX : Hid (x.ok = true) := hx
    have HBK : Hid (bk.ok = true) := by show bk.ok = true; rw [hbk]; exact back_ok hi
    obtain ⟨fm, hfm⟩ : ∃ M : Mx, M = joinM ⟨m.A, ph, m.C, pt⟩ (gapM bk) := ⟨_, rfl⟩
    obtain ⟨fc, hfc⟩ : ∃ c, c = jC ⟨m.A, ph, m.C, pt⟩ (gapM bk) := ⟨_, rfl⟩
    have SL : Hid (∀ W, Calls Try.prog 9 #[.agg #[.int .i64 m.A.n, .int .i64 m.A.d, .int .i64 ph.n, .int .i64 ph.d, .int .i64 m.C.n, .int .i64 m.C.d, .int .i64 pt.n, .int .i64 pt.d], .agg #[.int .i64 1, .int .i64 1, .int .i64 bk.n, .int .i64 bk.d, .int .i64 0, .int .i64 1, .int .i64 1, .int .i64 1]] W fun e w' => e = .returned (.agg #[.int .i64 fc, .int .i64 fm.A.n, .int .i64 fm.A.d, .int .i64 fm.B.n, .int .i64 fm.B.d, .int .i64 fm.C.n, .int .i64 fm.C.d, .int .i64 fm.D.n, .int .i64 fm.D.d]) ∧ Below W.heap.size W w') := fun W => by have h := sjoin ⟨m.A, ph, m.C, pt⟩ (gapM bk) W; rw [hfm, hfc]; exact h
    have HF : Hid (fc = 0 → fm.B.n = 0 ∧ fm.A = sc) := fun h0 => by
      have h1 : jC ⟨m.A, hV m x, m.C, tV m x⟩ (gapM (nQ (bV m x))) = 0 := (by rw [← hbk, ← hph, ← hpt, ← hfc]; exact h0)
      have e := image_law hi h1
      rw [← hbk, ← hph, ← hpt, ← hfm, ← hsc] at e
      exact ⟨by rw [e.1]; rfl, e.2⟩
    clear hm hx hi hbk hsc hph hpt hfm hfc
    have m_0 := B_m.out.cell (j := 0) rfl
    have m_1 := B_m.out.cell (j := 1) rfl
    have m_2 := B_m.out.cell (j := 2) rfl
    have m_3 := B_m.out.cell (j := 3) rfl
    have m_4 := B_m.out.cell (j := 4) rfl
    have m_5 := B_m.out.cell (j := 5) rfl
    have m_6 := B_m.out.cell (j := 6) rfl
    have m_7 := B_m.out.cell (j := 7) rfl
    have m_f := B_m.out.frozen
    have m_z := B_m.out.lt
    have x_0 := B_x.out.cell (j := 0) rfl
    have x_1 := B_x.out.cell (j := 1) rfl
    have x_f := B_x.out.frozen
    have x_z := B_x.out.lt
    go_wp2_with fail
    refine (SI.out _).mono ?_
    rintro e v3 ⟨rfl, hb⟩
    clear m_0 m_1 m_2 m_3 m_4 m_5 m_6 m_7 m_f m_z x_0 x_1 x_f x_z
    replace B_m : Hid (Blk v3 (v1.heap.size) #[.int .i64 m.A.n, .int .i64 m.A.d, .int .i64 m.B.n, .int .i64 m.B.d, .int .i64 m.C.n, .int .i64 m.C.d, .int .i64 m.D.n, .int .i64 m.D.d] 27) := by show Blk v3 (v1.heap.size) _ _; exact Blk.old B_m.out hb
    replace B_x : Hid (Blk v3 (v1.heap.size + 1) #[.int .i64 x.n, .int .i64 x.d] 25) := by show Blk v3 (v1.heap.size + 1) _ _; exact Blk.old B_x.out hb
    replace HO : Hid (Below w.heap.size w v3) := box_step HO.out hb (Nat.le_refl _)
    clear hb
    clear SI
    go_upto_region 5 with fail
    obtain ⟨v4, hv⟩ : ∃ Xw, Xw = (v3.alloc (.cells #[.int .i64 0, .int .i64 bk.n, .int .i64 bk.d, .int .i64 sc.n, .int .i64 sc.d] 31)) := ⟨_, rfl⟩
    rw [← hv]
    have ne_m_i : Hid (v1.heap.size ≠ v3.heap.size) := Nat.ne_of_lt (Nat.lt_of_lt_of_le B_m.out.lt (by omega))
    have ne_x_i : Hid (v1.heap.size + 1 ≠ v3.heap.size) := Nat.ne_of_lt (Nat.lt_of_lt_of_le B_x.out.lt (by omega))
    have B_i : Hid (Blk v4 (v3.heap.size) #[.int .i64 0, .int .i64 bk.n, .int .i64 bk.d, .int .i64 sc.n, .int .i64 sc.d] 31) := by show Blk v4 (v3.heap.size) _ _; rw [hv]; exact (Blk.new (by simp))
    have low_i : Hid (w.heap.size ≤ v3.heap.size) := by show w.heap.size ≤ v3.heap.size; have := HO.out.size; omega
    replace B_m : Hid (Blk v4 (v1.heap.size) #[.int .i64 m.A.n, .int .i64 m.A.d, .int .i64 m.B.n, .int .i64 m.B.d, .int .i64 m.C.n, .int .i64 m.C.d, .int .i64 m.D.n, .int .i64 m.D.d] 27) := by show Blk v4 (v1.heap.size) _ _; rw [hv]; exact (Blk.alloc B_m.out _)
    replace B_x : Hid (Blk v4 (v1.heap.size + 1) #[.int .i64 x.n, .int .i64 x.d] 25) := by show Blk v4 (v1.heap.size + 1) _ _; rw [hv]; exact (Blk.alloc B_x.out _)
    replace HO : Hid (Below w.heap.size w v4) := by show Below w.heap.size w v4; rw [hv]; exact (below_new HO.out _)
    clear hv
    have i_0 := B_i.out.cell (j := 0) rfl
    have i_1 := B_i.out.cell (j := 1) rfl
    have i_2 := B_i.out.cell (j := 2) rfl
    have i_3 := B_i.out.cell (j := 3) rfl
    have i_4 := B_i.out.cell (j := 4) rfl
    have i_f := B_i.out.frozen
    have i_z := B_i.out.lt
    go_upto_region 7 with fail
    clear i_0 i_1 i_2 i_3 i_4 i_f i_z
    have m_0 := B_m.out.cell (j := 0) rfl
    have m_1 := B_m.out.cell (j := 1) rfl
    have m_2 := B_m.out.cell (j := 2) rfl
    have m_3 := B_m.out.cell (j := 3) rfl
    have m_4 := B_m.out.cell (j := 4) rfl
    have m_5 := B_m.out.cell (j := 5) rfl
    have m_6 := B_m.out.cell (j := 6) rfl
    have m_7 := B_m.out.cell (j := 7) rfl
    have m_f := B_m.out.frozen
    have m_z := B_m.out.lt
    have x_0 := B_x.out.cell (j := 0) rfl
    have x_1 := B_x.out.cell (j := 1) rfl
    have x_f := B_x.out.frozen
    have x_z := B_x.out.lt
    go_wp2_with fail
    refine (II.out _).mono ?_
    rintro e v5 ⟨rfl, hb⟩
    clear m_0 m_1 m_2 m_3 m_4 m_5 m_6 m_7 m_f m_z x_0 x_1 x_f x_z
    replace B_m : Hid (Blk v5 (v1.heap.size) #[.int .i64 m.A.n, .int .i64 m.A.d, .int .i64 m.B.n, .int .i64 m.B.d, .int .i64 m.C.n, .int .i64 m.C.d, .int .i64 m.D.n, .int .i64 m.D.d] 27) := by show Blk v5 (v1.heap.size) _ _; exact Blk.old B_m.out hb
    replace B_x : Hid (Blk v5 (v1.heap.size + 1) #[.int .i64 x.n, .int .i64 x.d] 25) := by show Blk v5 (v1.heap.size + 1) _ _; exact Blk.old B_x.out hb
    replace B_i : Hid (Blk v5 (v3.heap.size) #[.int .i64 0, .int .i64 bk.n, .int .i64 bk.d, .int .i64 sc.n, .int .i64 sc.d] 31) := by show Blk v5 (v3.heap.size) _ _; exact Blk.old B_i.out hb
    replace HO : Hid (Below w.heap.size w v5) := box_step HO.out hb (Nat.le_refl _)
    clear hb
    clear II
    go_upto_region 8 with fail
    obtain ⟨v6, hv⟩ : ∃ Xw, Xw = (v5.alloc (.cells #[.int .i64 0, .int .i64 bk.n, .int .i64 bk.d, .int .i64 sc.n, .int .i64 sc.d] 31)) := ⟨_, rfl⟩
    rw [← hv]
    have ne_m_j : Hid (v1.heap.size ≠ v5.heap.size) := Nat.ne_of_lt (Nat.lt_of_lt_of_le B_m.out.lt (by omega))
    have ne_x_j : Hid (v1.heap.size + 1 ≠ v5.heap.size) := Nat.ne_of_lt (Nat.lt_of_lt_of_le B_x.out.lt (by omega))
    have ne_i_j : Hid (v3.heap.size ≠ v5.heap.size) := Nat.ne_of_lt (Nat.lt_of_lt_of_le B_i.out.lt (by omega))
    have B_j : Hid (Blk v6 (v5.heap.size) #[.int .i64 0, .int .i64 bk.n, .int .i64 bk.d, .int .i64 sc.n, .int .i64 sc.d] 31) := by show Blk v6 (v5.heap.size) _ _; rw [hv]; exact (Blk.new (by simp))
    have low_j : Hid (w.heap.size ≤ v5.heap.size) := by show w.heap.size ≤ v5.heap.size; have := HO.out.size; omega
    replace B_m : Hid (Blk v6 (v1.heap.size) #[.int .i64 m.A.n, .int .i64 m.A.d, .int .i64 m.B.n, .int .i64 m.B.d, .int .i64 m.C.n, .int .i64 m.C.d, .int .i64 m.D.n, .int .i64 m.D.d] 27) := by show Blk v6 (v1.heap.size) _ _; rw [hv]; exact (Blk.alloc B_m.out _)
    replace B_x : Hid (Blk v6 (v1.heap.size + 1) #[.int .i64 x.n, .int .i64 x.d] 25) := by show Blk v6 (v1.heap.size + 1) _ _; rw [hv]; exact (Blk.alloc B_x.out _)
    replace B_i : Hid (Blk v6 (v3.heap.size) #[.int .i64 0, .int .i64 bk.n, .int .i64 bk.d, .int .i64 sc.n, .int .i64 sc.d] 31) := by show Blk v6 (v3.heap.size) _ _; rw [hv]; exact (Blk.alloc B_i.out _)
    replace HO : Hid (Below w.heap.size w v6) := by show Below w.heap.size w v6; rw [hv]; exact (below_new HO.out _)
    clear hv
    have hn31 := neq31_same
    have i_0 := B_i.out.cell (j := 0) rfl
    have i_1 := B_i.out.cell (j := 1) rfl
    have i_2 := B_i.out.cell (j := 2) rfl
    have i_3 := B_i.out.cell (j := 3) rfl
    have i_4 := B_i.out.cell (j := 4) rfl
    have i_f := B_i.out.frozen
    have i_z := B_i.out.lt
    have j_0 := B_j.out.cell (j := 0) rfl
    have j_1 := B_j.out.cell (j := 1) rfl
    have j_2 := B_j.out.cell (j := 2) rfl
    have j_3 := B_j.out.cell (j := 3) rfl
    have j_4 := B_j.out.cell (j := 4) rfl
    have j_f := B_j.out.frozen
    have j_z := B_j.out.lt
    go_upto_region 10 with fail
    clear hn31 i_0 i_1 i_2 i_3 i_4 i_f i_z j_0 j_1 j_2 j_3 j_4 j_f j_z
    have x_0 := B_x.out.cell (j := 0) rfl
    have x_1 := B_x.out.cell (j := 1) rfl
    have x_f := B_x.out.frozen
    have x_z := B_x.out.lt
    go_upto_region 11 with fail
    clear x_0 x_1 x_f x_z
    obtain ⟨v7, hv⟩ : ∃ Xw, Xw = (v6.alloc (.cells #[.int .i64 1, .int .i64 x.n, .int .i64 x.d] 34)) := ⟨_, rfl⟩
    rw [← hv]
    have ne_m_s : Hid (v1.heap.size ≠ v6.heap.size) := Nat.ne_of_lt (Nat.lt_of_lt_of_le B_m.out.lt (by omega))
    have ne_x_s : Hid (v1.heap.size + 1 ≠ v6.heap.size) := Nat.ne_of_lt (Nat.lt_of_lt_of_le B_x.out.lt (by omega))
    have ne_i_s : Hid (v3.heap.size ≠ v6.heap.size) := Nat.ne_of_lt (Nat.lt_of_lt_of_le B_i.out.lt (by omega))
    have ne_j_s : Hid (v5.heap.size ≠ v6.heap.size) := Nat.ne_of_lt (Nat.lt_of_lt_of_le B_j.out.lt (by omega))
    have B_s : Hid (Blk v7 (v6.heap.size) #[.int .i64 1, .int .i64 x.n, .int .i64 x.d] 34) := by show Blk v7 (v6.heap.size) _ _; rw [hv]; exact (Blk.new (by simp))
    have low_s : Hid (w.heap.size ≤ v6.heap.size) := by show w.heap.size ≤ v6.heap.size; have := HO.out.size; omega
    replace B_m : Hid (Blk v7 (v1.heap.size) #[.int .i64 m.A.n, .int .i64 m.A.d, .int .i64 m.B.n, .int .i64 m.B.d, .int .i64 m.C.n, .int .i64 m.C.d, .int .i64 m.D.n, .int .i64 m.D.d] 27) := by show Blk v7 (v1.heap.size) _ _; rw [hv]; exact (Blk.alloc B_m.out _)
    replace B_x : Hid (Blk v7 (v1.heap.size + 1) #[.int .i64 x.n, .int .i64 x.d] 25) := by show Blk v7 (v1.heap.size + 1) _ _; rw [hv]; exact (Blk.alloc B_x.out _)
    replace B_i : Hid (Blk v7 (v3.heap.size) #[.int .i64 0, .int .i64 bk.n, .int .i64 bk.d, .int .i64 sc.n, .int .i64 sc.d] 31) := by show Blk v7 (v3.heap.size) _ _; rw [hv]; exact (Blk.alloc B_i.out _)
    replace B_j : Hid (Blk v7 (v5.heap.size) #[.int .i64 0, .int .i64 bk.n, .int .i64 bk.d, .int .i64 sc.n, .int .i64 sc.d] 31) := by show Blk v7 (v5.heap.size) _ _; rw [hv]; exact (Blk.alloc B_j.out _)
    replace HO : Hid (Below w.heap.size w v7) := by show Below w.heap.size w v7; rw [hv]; exact (below_new HO.out _)
    clear hv
    go_wp2_with fail
    refine (sgap HX.out B_s.out).mono ?_
    rintro e v8 ⟨rfl, hb⟩
    replace B_m : Hid (Blk v8 (v1.heap.size) #[.int .i64 m.A.n, .int .i64 m.A.d, .int .i64 m.B.n, .int .i64 m.B.d, .int .i64 m.C.n, .int .i64 m.C.d, .int .i64 m.D.n, .int .i64 m.D.d] 27) := by show Blk v8 (v1.heap.size) _ _; exact Blk.old B_m.out hb
    replace B_x : Hid (Blk v8 (v1.heap.size + 1) #[.int .i64 x.n, .int .i64 x.d] 25) := by show Blk v8 (v1.heap.size + 1) _ _; exact Blk.old B_x.out hb
    replace B_i : Hid (Blk v8 (v3.heap.size) #[.int .i64 0, .int .i64 bk.n, .int .i64 bk.d, .int .i64 sc.n, .int .i64 sc.d] 31) := by show Blk v8 (v3.heap.size) _ _; exact Blk.old B_i.out hb
    replace B_j : Hid (Blk v8 (v5.heap.size) #[.int .i64 0, .int .i64 bk.n, .int .i64 bk.d, .int .i64 sc.n, .int .i64 sc.d] 31) := by show Blk v8 (v5.heap.size) _ _; exact Blk.old B_j.out hb
    replace B_s : Hid (Blk v8 (v6.heap.size) #[.int .i64 1, .int .i64 x.n, .int .i64 x.d] 34) := by show Blk v8 (v6.heap.size) _ _; exact Blk.old B_s.out hb
    replace HO : Hid (Below w.heap.size w v8) := box_step HO.out hb (Nat.le_refl _)
    clear hb
    go_upto_region 12 with fail
    obtain ⟨v9, hv⟩ : ∃ Xw, Xw = (v8.alloc (.cells #[.int .i64 0, .int .i64 1, .int .i64 1, .int .i64 x.n, .int .i64 x.d, .int .i64 0, .int .i64 1, .int .i64 1, .int .i64 1] 37)) := ⟨_, rfl⟩
    rw [← hv]
    have ne_m_a : Hid (v1.heap.size ≠ v8.heap.size) := Nat.ne_of_lt (Nat.lt_of_lt_of_le B_m.out.lt (by omega))
    have ne_x_a : Hid (v1.heap.size + 1 ≠ v8.heap.size) := Nat.ne_of_lt (Nat.lt_of_lt_of_le B_x.out.lt (by omega))
    have ne_i_a : Hid (v3.heap.size ≠ v8.heap.size) := Nat.ne_of_lt (Nat.lt_of_lt_of_le B_i.out.lt (by omega))
    have ne_j_a : Hid (v5.heap.size ≠ v8.heap.size) := Nat.ne_of_lt (Nat.lt_of_lt_of_le B_j.out.lt (by omega))
    have ne_s_a : Hid (v6.heap.size ≠ v8.heap.size) := Nat.ne_of_lt (Nat.lt_of_lt_of_le B_s.out.lt (by omega))
    have B_a : Hid (Blk v9 (v8.heap.size) #[.int .i64 0, .int .i64 1, .int .i64 1, .int .i64 x.n, .int .i64 x.d, .int .i64 0, .int .i64 1, .int .i64 1, .int .i64 1] 37) := by show Blk v9 (v8.heap.size) _ _; rw [hv]; exact (Blk.new (by simp))
    have low_a : Hid (w.heap.size ≤ v8.heap.size) := by show w.heap.size ≤ v8.heap.size; have := HO.out.size; omega
    replace B_m : Hid (Blk v9 (v1.heap.size) #[.int .i64 m.A.n, .int .i64 m.A.d, .int .i64 m.B.n, .int .i64 m.B.d, .int .i64 m.C.n, .int .i64 m.C.d, .int .i64 m.D.n, .int .i64 m.D.d] 27) := by show Blk v9 (v1.heap.size) _ _; rw [hv]; exact (Blk.alloc B_m.out _)
    replace B_x : Hid (Blk v9 (v1.heap.size + 1) #[.int .i64 x.n, .int .i64 x.d] 25) := by show Blk v9 (v1.heap.size + 1) _ _; rw [hv]; exact (Blk.alloc B_x.out _)
    replace B_i : Hid (Blk v9 (v3.heap.size) #[.int .i64 0, .int .i64 bk.n, .int .i64 bk.d, .int .i64 sc.n, .int .i64 sc.d] 31) := by show Blk v9 (v3.heap.size) _ _; rw [hv]; exact (Blk.alloc B_i.out _)
    replace B_j : Hid (Blk v9 (v5.heap.size) #[.int .i64 0, .int .i64 bk.n, .int .i64 bk.d, .int .i64 sc.n, .int .i64 sc.d] 31) := by show Blk v9 (v5.heap.size) _ _; rw [hv]; exact (Blk.alloc B_j.out _)
    replace B_s : Hid (Blk v9 (v6.heap.size) #[.int .i64 1, .int .i64 x.n, .int .i64 x.d] 34) := by show Blk v9 (v6.heap.size) _ _; rw [hv]; exact (Blk.alloc B_s.out _)
    replace HO : Hid (Below w.heap.size w v9) := by show Below w.heap.size w v9; rw [hv]; exact (below_new HO.out _)
    clear hv
    have j_0 := B_j.out.cell (j := 0) rfl
    have j_1 := B_j.out.cell (j := 1) rfl
    have j_2 := B_j.out.cell (j := 2) rfl
    have j_3 := B_j.out.cell (j := 3) rfl
    have j_4 := B_j.out.cell (j := 4) rfl
    have j_f := B_j.out.frozen
    have j_z := B_j.out.lt
    go_wp2_with fail
    refine (sgap HBK.out (Blk.new rfl)).mono ?_
    rintro e v10 ⟨rfl, hb⟩
    clear j_0 j_1 j_2 j_3 j_4 j_f j_z
    have ne_m_t : Hid (v1.heap.size ≠ v9.heap.size) := Nat.ne_of_lt (Nat.lt_of_lt_of_le B_m.out.lt (by omega))
    have ne_x_t : Hid (v1.heap.size + 1 ≠ v9.heap.size) := Nat.ne_of_lt (Nat.lt_of_lt_of_le B_x.out.lt (by omega))
    have ne_i_t : Hid (v3.heap.size ≠ v9.heap.size) := Nat.ne_of_lt (Nat.lt_of_lt_of_le B_i.out.lt (by omega))
    have ne_j_t : Hid (v5.heap.size ≠ v9.heap.size) := Nat.ne_of_lt (Nat.lt_of_lt_of_le B_j.out.lt (by omega))
    have ne_s_t : Hid (v6.heap.size ≠ v9.heap.size) := Nat.ne_of_lt (Nat.lt_of_lt_of_le B_s.out.lt (by omega))
    have ne_a_t : Hid (v8.heap.size ≠ v9.heap.size) := Nat.ne_of_lt (Nat.lt_of_lt_of_le B_a.out.lt (by omega))
    have B_t : Hid (Blk v10 (v9.heap.size) #[.int .i64 1, .int .i64 bk.n, .int .i64 bk.d] 34) := by show Blk v10 (v9.heap.size) _ _; exact Blk.old (Blk.new (by simp)) hb
    have low_t : Hid (w.heap.size ≤ v9.heap.size) := by show w.heap.size ≤ v9.heap.size; have := HO.out.size; omega
    replace B_m : Hid (Blk v10 (v1.heap.size) #[.int .i64 m.A.n, .int .i64 m.A.d, .int .i64 m.B.n, .int .i64 m.B.d, .int .i64 m.C.n, .int .i64 m.C.d, .int .i64 m.D.n, .int .i64 m.D.d] 27) := by show Blk v10 (v1.heap.size) _ _; exact Blk.old (Blk.alloc B_m.out _) hb
    replace B_x : Hid (Blk v10 (v1.heap.size + 1) #[.int .i64 x.n, .int .i64 x.d] 25) := by show Blk v10 (v1.heap.size + 1) _ _; exact Blk.old (Blk.alloc B_x.out _) hb
    replace B_i : Hid (Blk v10 (v3.heap.size) #[.int .i64 0, .int .i64 bk.n, .int .i64 bk.d, .int .i64 sc.n, .int .i64 sc.d] 31) := by show Blk v10 (v3.heap.size) _ _; exact Blk.old (Blk.alloc B_i.out _) hb
    replace B_j : Hid (Blk v10 (v5.heap.size) #[.int .i64 0, .int .i64 bk.n, .int .i64 bk.d, .int .i64 sc.n, .int .i64 sc.d] 31) := by show Blk v10 (v5.heap.size) _ _; exact Blk.old (Blk.alloc B_j.out _) hb
    replace B_s : Hid (Blk v10 (v6.heap.size) #[.int .i64 1, .int .i64 x.n, .int .i64 x.d] 34) := by show Blk v10 (v6.heap.size) _ _; exact Blk.old (Blk.alloc B_s.out _) hb
    replace B_a : Hid (Blk v10 (v8.heap.size) #[.int .i64 0, .int .i64 1, .int .i64 1, .int .i64 x.n, .int .i64 x.d, .int .i64 0, .int .i64 1, .int .i64 1, .int .i64 1] 37) := by show Blk v10 (v8.heap.size) _ _; exact Blk.old (Blk.alloc B_a.out _) hb
    replace HO : Hid (Below w.heap.size w v10) := box_step (below_new HO.out _) hb (Nat.le_refl _)
    clear hb
    go_upto_region 13 with fail
    obtain ⟨v11, hv⟩ : ∃ Xw, Xw = (v10.alloc (.cells #[.int .i64 0, .int .i64 1, .int .i64 1, .int .i64 bk.n, .int .i64 bk.d, .int .i64 0, .int .i64 1, .int .i64 1, .int .i64 1] 37)) := ⟨_, rfl⟩
    rw [← hv]
    have ne_m_b : Hid (v1.heap.size ≠ v10.heap.size) := Nat.ne_of_lt (Nat.lt_of_lt_of_le B_m.out.lt (by omega))
    have ne_x_b : Hid (v1.heap.size + 1 ≠ v10.heap.size) := Nat.ne_of_lt (Nat.lt_of_lt_of_le B_x.out.lt (by omega))
    have ne_i_b : Hid (v3.heap.size ≠ v10.heap.size) := Nat.ne_of_lt (Nat.lt_of_lt_of_le B_i.out.lt (by omega))
    have ne_j_b : Hid (v5.heap.size ≠ v10.heap.size) := Nat.ne_of_lt (Nat.lt_of_lt_of_le B_j.out.lt (by omega))
    have ne_s_b : Hid (v6.heap.size ≠ v10.heap.size) := Nat.ne_of_lt (Nat.lt_of_lt_of_le B_s.out.lt (by omega))
    have ne_a_b : Hid (v8.heap.size ≠ v10.heap.size) := Nat.ne_of_lt (Nat.lt_of_lt_of_le B_a.out.lt (by omega))
    have ne_t_b : Hid (v9.heap.size ≠ v10.heap.size) := Nat.ne_of_lt (Nat.lt_of_lt_of_le B_t.out.lt (by omega))
    have B_b : Hid (Blk v11 (v10.heap.size) #[.int .i64 0, .int .i64 1, .int .i64 1, .int .i64 bk.n, .int .i64 bk.d, .int .i64 0, .int .i64 1, .int .i64 1, .int .i64 1] 37) := by show Blk v11 (v10.heap.size) _ _; rw [hv]; exact (Blk.new (by simp))
    have low_b : Hid (w.heap.size ≤ v10.heap.size) := by show w.heap.size ≤ v10.heap.size; have := HO.out.size; omega
    replace B_m : Hid (Blk v11 (v1.heap.size) #[.int .i64 m.A.n, .int .i64 m.A.d, .int .i64 m.B.n, .int .i64 m.B.d, .int .i64 m.C.n, .int .i64 m.C.d, .int .i64 m.D.n, .int .i64 m.D.d] 27) := by show Blk v11 (v1.heap.size) _ _; rw [hv]; exact (Blk.alloc B_m.out _)
    replace B_x : Hid (Blk v11 (v1.heap.size + 1) #[.int .i64 x.n, .int .i64 x.d] 25) := by show Blk v11 (v1.heap.size + 1) _ _; rw [hv]; exact (Blk.alloc B_x.out _)
    replace B_i : Hid (Blk v11 (v3.heap.size) #[.int .i64 0, .int .i64 bk.n, .int .i64 bk.d, .int .i64 sc.n, .int .i64 sc.d] 31) := by show Blk v11 (v3.heap.size) _ _; rw [hv]; exact (Blk.alloc B_i.out _)
    replace B_j : Hid (Blk v11 (v5.heap.size) #[.int .i64 0, .int .i64 bk.n, .int .i64 bk.d, .int .i64 sc.n, .int .i64 sc.d] 31) := by show Blk v11 (v5.heap.size) _ _; rw [hv]; exact (Blk.alloc B_j.out _)
    replace B_s : Hid (Blk v11 (v6.heap.size) #[.int .i64 1, .int .i64 x.n, .int .i64 x.d] 34) := by show Blk v11 (v6.heap.size) _ _; rw [hv]; exact (Blk.alloc B_s.out _)
    replace B_a : Hid (Blk v11 (v8.heap.size) #[.int .i64 0, .int .i64 1, .int .i64 1, .int .i64 x.n, .int .i64 x.d, .int .i64 0, .int .i64 1, .int .i64 1, .int .i64 1] 37) := by show Blk v11 (v8.heap.size) _ _; rw [hv]; exact (Blk.alloc B_a.out _)
    replace B_t : Hid (Blk v11 (v9.heap.size) #[.int .i64 1, .int .i64 bk.n, .int .i64 bk.d] 34) := by show Blk v11 (v9.heap.size) _ _; rw [hv]; exact (Blk.alloc B_t.out _)
    replace HO : Hid (Below w.heap.size w v11) := by show Below w.heap.size w v11; rw [hv]; exact (below_new HO.out _)
    clear hv
    have a_0 := B_a.out.cell (j := 0) rfl
    have a_1 := B_a.out.cell (j := 1) rfl
    have a_2 := B_a.out.cell (j := 2) rfl
    have a_3 := B_a.out.cell (j := 3) rfl
    have a_4 := B_a.out.cell (j := 4) rfl
    have a_5 := B_a.out.cell (j := 5) rfl
    have a_6 := B_a.out.cell (j := 6) rfl
    have a_7 := B_a.out.cell (j := 7) rfl
    have a_8 := B_a.out.cell (j := 8) rfl
    have a_f := B_a.out.frozen
    have a_z := B_a.out.lt
    have m_0 := B_m.out.cell (j := 0) rfl
    have m_1 := B_m.out.cell (j := 1) rfl
    have m_2 := B_m.out.cell (j := 2) rfl
    have m_3 := B_m.out.cell (j := 3) rfl
    have m_4 := B_m.out.cell (j := 4) rfl
    have m_5 := B_m.out.cell (j := 5) rfl
    have m_6 := B_m.out.cell (j := 6) rfl
    have m_7 := B_m.out.cell (j := 7) rfl
    have m_f := B_m.out.frozen
    have m_z := B_m.out.lt
    go_wp2_with fail
    refine (SJ.out _).mono ?_
    rintro e v12 ⟨rfl, hb⟩
    clear a_0 a_1 a_2 a_3 a_4 a_5 a_6 a_7 a_8 a_f a_z m_0 m_1 m_2 m_3 m_4 m_5 m_6 m_7 m_f m_z
    replace B_m : Hid (Blk v12 (v1.heap.size) #[.int .i64 m.A.n, .int .i64 m.A.d, .int .i64 m.B.n, .int .i64 m.B.d, .int .i64 m.C.n, .int .i64 m.C.d, .int .i64 m.D.n, .int .i64 m.D.d] 27) := by show Blk v12 (v1.heap.size) _ _; exact Blk.old B_m.out hb
    replace B_x : Hid (Blk v12 (v1.heap.size + 1) #[.int .i64 x.n, .int .i64 x.d] 25) := by show Blk v12 (v1.heap.size + 1) _ _; exact Blk.old B_x.out hb
    replace B_i : Hid (Blk v12 (v3.heap.size) #[.int .i64 0, .int .i64 bk.n, .int .i64 bk.d, .int .i64 sc.n, .int .i64 sc.d] 31) := by show Blk v12 (v3.heap.size) _ _; exact Blk.old B_i.out hb
    replace B_j : Hid (Blk v12 (v5.heap.size) #[.int .i64 0, .int .i64 bk.n, .int .i64 bk.d, .int .i64 sc.n, .int .i64 sc.d] 31) := by show Blk v12 (v5.heap.size) _ _; exact Blk.old B_j.out hb
    replace B_s : Hid (Blk v12 (v6.heap.size) #[.int .i64 1, .int .i64 x.n, .int .i64 x.d] 34) := by show Blk v12 (v6.heap.size) _ _; exact Blk.old B_s.out hb
    replace B_a : Hid (Blk v12 (v8.heap.size) #[.int .i64 0, .int .i64 1, .int .i64 1, .int .i64 x.n, .int .i64 x.d, .int .i64 0, .int .i64 1, .int .i64 1, .int .i64 1] 37) := by show Blk v12 (v8.heap.size) _ _; exact Blk.old B_a.out hb
    replace B_t : Hid (Blk v12 (v9.heap.size) #[.int .i64 1, .int .i64 bk.n, .int .i64 bk.d] 34) := by show Blk v12 (v9.heap.size) _ _; exact Blk.old B_t.out hb
    replace B_b : Hid (Blk v12 (v10.heap.size) #[.int .i64 0, .int .i64 1, .int .i64 1, .int .i64 bk.n, .int .i64 bk.d, .int .i64 0, .int .i64 1, .int .i64 1, .int .i64 1] 37) := by show Blk v12 (v10.heap.size) _ _; exact Blk.old B_b.out hb
    replace HO : Hid (Below w.heap.size w v12) := box_step HO.out hb (Nat.le_refl _)
    clear hb
    clear SJ
    go_upto_region 14 with fail
    obtain ⟨v13, hv⟩ : ∃ Xw, Xw = (v12.alloc (.cells #[.int .i64 0, .int .i64 m.A.n, .int .i64 m.A.d, .int .i64 ph.n, .int .i64 ph.d, .int .i64 m.C.n, .int .i64 m.C.d, .int .i64 pt.n, .int .i64 pt.d] 37)) := ⟨_, rfl⟩
    rw [← hv]
    have ne_m_c : Hid (v1.heap.size ≠ v12.heap.size) := Nat.ne_of_lt (Nat.lt_of_lt_of_le B_m.out.lt (by omega))
    have ne_x_c : Hid (v1.heap.size + 1 ≠ v12.heap.size) := Nat.ne_of_lt (Nat.lt_of_lt_of_le B_x.out.lt (by omega))
    have ne_i_c : Hid (v3.heap.size ≠ v12.heap.size) := Nat.ne_of_lt (Nat.lt_of_lt_of_le B_i.out.lt (by omega))
    have ne_j_c : Hid (v5.heap.size ≠ v12.heap.size) := Nat.ne_of_lt (Nat.lt_of_lt_of_le B_j.out.lt (by omega))
    have ne_s_c : Hid (v6.heap.size ≠ v12.heap.size) := Nat.ne_of_lt (Nat.lt_of_lt_of_le B_s.out.lt (by omega))
    have ne_a_c : Hid (v8.heap.size ≠ v12.heap.size) := Nat.ne_of_lt (Nat.lt_of_lt_of_le B_a.out.lt (by omega))
    have ne_t_c : Hid (v9.heap.size ≠ v12.heap.size) := Nat.ne_of_lt (Nat.lt_of_lt_of_le B_t.out.lt (by omega))
    have ne_b_c : Hid (v10.heap.size ≠ v12.heap.size) := Nat.ne_of_lt (Nat.lt_of_lt_of_le B_b.out.lt (by omega))
    have B_c : Hid (Blk v13 (v12.heap.size) #[.int .i64 0, .int .i64 m.A.n, .int .i64 m.A.d, .int .i64 ph.n, .int .i64 ph.d, .int .i64 m.C.n, .int .i64 m.C.d, .int .i64 pt.n, .int .i64 pt.d] 37) := by show Blk v13 (v12.heap.size) _ _; rw [hv]; exact (Blk.new (by simp))
    have low_c : Hid (w.heap.size ≤ v12.heap.size) := by show w.heap.size ≤ v12.heap.size; have := HO.out.size; omega
    replace B_m : Hid (Blk v13 (v1.heap.size) #[.int .i64 m.A.n, .int .i64 m.A.d, .int .i64 m.B.n, .int .i64 m.B.d, .int .i64 m.C.n, .int .i64 m.C.d, .int .i64 m.D.n, .int .i64 m.D.d] 27) := by show Blk v13 (v1.heap.size) _ _; rw [hv]; exact (Blk.alloc B_m.out _)
    replace B_x : Hid (Blk v13 (v1.heap.size + 1) #[.int .i64 x.n, .int .i64 x.d] 25) := by show Blk v13 (v1.heap.size + 1) _ _; rw [hv]; exact (Blk.alloc B_x.out _)
    replace B_i : Hid (Blk v13 (v3.heap.size) #[.int .i64 0, .int .i64 bk.n, .int .i64 bk.d, .int .i64 sc.n, .int .i64 sc.d] 31) := by show Blk v13 (v3.heap.size) _ _; rw [hv]; exact (Blk.alloc B_i.out _)
    replace B_j : Hid (Blk v13 (v5.heap.size) #[.int .i64 0, .int .i64 bk.n, .int .i64 bk.d, .int .i64 sc.n, .int .i64 sc.d] 31) := by show Blk v13 (v5.heap.size) _ _; rw [hv]; exact (Blk.alloc B_j.out _)
    replace B_s : Hid (Blk v13 (v6.heap.size) #[.int .i64 1, .int .i64 x.n, .int .i64 x.d] 34) := by show Blk v13 (v6.heap.size) _ _; rw [hv]; exact (Blk.alloc B_s.out _)
    replace B_a : Hid (Blk v13 (v8.heap.size) #[.int .i64 0, .int .i64 1, .int .i64 1, .int .i64 x.n, .int .i64 x.d, .int .i64 0, .int .i64 1, .int .i64 1, .int .i64 1] 37) := by show Blk v13 (v8.heap.size) _ _; rw [hv]; exact (Blk.alloc B_a.out _)
    replace B_t : Hid (Blk v13 (v9.heap.size) #[.int .i64 1, .int .i64 bk.n, .int .i64 bk.d] 34) := by show Blk v13 (v9.heap.size) _ _; rw [hv]; exact (Blk.alloc B_t.out _)
    replace B_b : Hid (Blk v13 (v10.heap.size) #[.int .i64 0, .int .i64 1, .int .i64 1, .int .i64 bk.n, .int .i64 bk.d, .int .i64 0, .int .i64 1, .int .i64 1, .int .i64 1] 37) := by show Blk v13 (v10.heap.size) _ _; rw [hv]; exact (Blk.alloc B_b.out _)
    replace HO : Hid (Below w.heap.size w v13) := by show Below w.heap.size w v13; rw [hv]; exact (below_new HO.out _)
    clear hv
    have a_0 := B_a.out.cell (j := 0) rfl
    have a_1 := B_a.out.cell (j := 1) rfl
    have a_2 := B_a.out.cell (j := 2) rfl
    have a_3 := B_a.out.cell (j := 3) rfl
    have a_4 := B_a.out.cell (j := 4) rfl
    have a_5 := B_a.out.cell (j := 5) rfl
    have a_6 := B_a.out.cell (j := 6) rfl
    have a_7 := B_a.out.cell (j := 7) rfl
    have a_8 := B_a.out.cell (j := 8) rfl
    have a_f := B_a.out.frozen
    have a_z := B_a.out.lt
    have b_0 := B_b.out.cell (j := 0) rfl
    have b_1 := B_b.out.cell (j := 1) rfl
    have b_2 := B_b.out.cell (j := 2) rfl
    have b_3 := B_b.out.cell (j := 3) rfl
    have b_4 := B_b.out.cell (j := 4) rfl
    have b_5 := B_b.out.cell (j := 5) rfl
    have b_6 := B_b.out.cell (j := 6) rfl
    have b_7 := B_b.out.cell (j := 7) rfl
    have b_8 := B_b.out.cell (j := 8) rfl
    have b_f := B_b.out.frozen
    have b_z := B_b.out.lt
    have c_0 := B_c.out.cell (j := 0) rfl
    have c_1 := B_c.out.cell (j := 1) rfl
    have c_2 := B_c.out.cell (j := 2) rfl
    have c_3 := B_c.out.cell (j := 3) rfl
    have c_4 := B_c.out.cell (j := 4) rfl
    have c_5 := B_c.out.cell (j := 5) rfl
    have c_6 := B_c.out.cell (j := 6) rfl
    have c_7 := B_c.out.cell (j := 7) rfl
    have c_8 := B_c.out.cell (j := 8) rfl
    have c_f := B_c.out.frozen
    have c_z := B_c.out.lt
    go_upto_region 16 with fail
    clear a_0 a_1 a_2 a_3 a_4 a_5 a_6 a_7 a_8 a_f a_z b_0 b_1 b_2 b_3 b_4 b_5 b_6 b_7 b_8 b_f b_z c_0 c_1 c_2 c_3 c_4 c_5 c_6 c_7 c_8 c_f c_z
    have c_0 := B_c.out.cell (j := 0) rfl
    have c_1 := B_c.out.cell (j := 1) rfl
    have c_2 := B_c.out.cell (j := 2) rfl
    have c_3 := B_c.out.cell (j := 3) rfl
    have c_4 := B_c.out.cell (j := 4) rfl
    have c_5 := B_c.out.cell (j := 5) rfl
    have c_6 := B_c.out.cell (j := 6) rfl
    have c_7 := B_c.out.cell (j := 7) rfl
    have c_8 := B_c.out.cell (j := 8) rfl
    have c_f := B_c.out.frozen
    have c_z := B_c.out.lt
    have b_0 := B_b.out.cell (j := 0) rfl
    have b_1 := B_b.out.cell (j := 1) rfl
    have b_2 := B_b.out.cell (j := 2) rfl
    have b_3 := B_b.out.cell (j := 3) rfl
    have b_4 := B_b.out.cell (j := 4) rfl
    have b_5 := B_b.out.cell (j := 5) rfl
    have b_6 := B_b.out.cell (j := 6) rfl
    have b_7 := B_b.out.cell (j := 7) rfl
    have b_8 := B_b.out.cell (j := 8) rfl
    have b_f := B_b.out.frozen
    have b_z := B_b.out.lt
    go_wp2_with fail
    refine (SL.out _).mono ?_
    rintro e v14 ⟨rfl, hb⟩
    clear c_0 c_1 c_2 c_3 c_4 c_5 c_6 c_7 c_8 c_f c_z b_0 b_1 b_2 b_3 b_4 b_5 b_6 b_7 b_8 b_f b_z
    replace B_m : Hid (Blk v14 (v1.heap.size) #[.int .i64 m.A.n, .int .i64 m.A.d, .int .i64 m.B.n, .int .i64 m.B.d, .int .i64 m.C.n, .int .i64 m.C.d, .int .i64 m.D.n, .int .i64 m.D.d] 27) := by show Blk v14 (v1.heap.size) _ _; exact Blk.old B_m.out hb
    replace B_x : Hid (Blk v14 (v1.heap.size + 1) #[.int .i64 x.n, .int .i64 x.d] 25) := by show Blk v14 (v1.heap.size + 1) _ _; exact Blk.old B_x.out hb
    replace B_i : Hid (Blk v14 (v3.heap.size) #[.int .i64 0, .int .i64 bk.n, .int .i64 bk.d, .int .i64 sc.n, .int .i64 sc.d] 31) := by show Blk v14 (v3.heap.size) _ _; exact Blk.old B_i.out hb
    replace B_j : Hid (Blk v14 (v5.heap.size) #[.int .i64 0, .int .i64 bk.n, .int .i64 bk.d, .int .i64 sc.n, .int .i64 sc.d] 31) := by show Blk v14 (v5.heap.size) _ _; exact Blk.old B_j.out hb
    replace B_s : Hid (Blk v14 (v6.heap.size) #[.int .i64 1, .int .i64 x.n, .int .i64 x.d] 34) := by show Blk v14 (v6.heap.size) _ _; exact Blk.old B_s.out hb
    replace B_a : Hid (Blk v14 (v8.heap.size) #[.int .i64 0, .int .i64 1, .int .i64 1, .int .i64 x.n, .int .i64 x.d, .int .i64 0, .int .i64 1, .int .i64 1, .int .i64 1] 37) := by show Blk v14 (v8.heap.size) _ _; exact Blk.old B_a.out hb
    replace B_t : Hid (Blk v14 (v9.heap.size) #[.int .i64 1, .int .i64 bk.n, .int .i64 bk.d] 34) := by show Blk v14 (v9.heap.size) _ _; exact Blk.old B_t.out hb
    replace B_b : Hid (Blk v14 (v10.heap.size) #[.int .i64 0, .int .i64 1, .int .i64 1, .int .i64 bk.n, .int .i64 bk.d, .int .i64 0, .int .i64 1, .int .i64 1, .int .i64 1] 37) := by show Blk v14 (v10.heap.size) _ _; exact Blk.old B_b.out hb
    replace B_c : Hid (Blk v14 (v12.heap.size) #[.int .i64 0, .int .i64 m.A.n, .int .i64 m.A.d, .int .i64 ph.n, .int .i64 ph.d, .int .i64 m.C.n, .int .i64 m.C.d, .int .i64 pt.n, .int .i64 pt.d] 37) := by show Blk v14 (v12.heap.size) _ _; exact Blk.old B_c.out hb
    replace HO : Hid (Below w.heap.size w v14) := box_step HO.out hb (Nat.le_refl _)
    clear hb
    clear SL
    by_cases hc : fc = 0
    · subst hc
      go_upto_region 17 with fail
      obtain ⟨v15, hv⟩ : ∃ Xw, Xw = (v14.alloc (.cells #[.int .i64 0, .int .i64 fm.A.n, .int .i64 fm.A.d, .int .i64 fm.B.n, .int .i64 fm.B.d, .int .i64 fm.C.n, .int .i64 fm.C.d, .int .i64 fm.D.n, .int .i64 fm.D.d] 37)) := ⟨_, rfl⟩
      rw [← hv]
      have ne_m_d : Hid (v1.heap.size ≠ v14.heap.size) := Nat.ne_of_lt (Nat.lt_of_lt_of_le B_m.out.lt (by omega))
      have ne_x_d : Hid (v1.heap.size + 1 ≠ v14.heap.size) := Nat.ne_of_lt (Nat.lt_of_lt_of_le B_x.out.lt (by omega))
      have ne_i_d : Hid (v3.heap.size ≠ v14.heap.size) := Nat.ne_of_lt (Nat.lt_of_lt_of_le B_i.out.lt (by omega))
      have ne_j_d : Hid (v5.heap.size ≠ v14.heap.size) := Nat.ne_of_lt (Nat.lt_of_lt_of_le B_j.out.lt (by omega))
      have ne_s_d : Hid (v6.heap.size ≠ v14.heap.size) := Nat.ne_of_lt (Nat.lt_of_lt_of_le B_s.out.lt (by omega))
      have ne_a_d : Hid (v8.heap.size ≠ v14.heap.size) := Nat.ne_of_lt (Nat.lt_of_lt_of_le B_a.out.lt (by omega))
      have ne_t_d : Hid (v9.heap.size ≠ v14.heap.size) := Nat.ne_of_lt (Nat.lt_of_lt_of_le B_t.out.lt (by omega))
      have ne_b_d : Hid (v10.heap.size ≠ v14.heap.size) := Nat.ne_of_lt (Nat.lt_of_lt_of_le B_b.out.lt (by omega))
      have ne_c_d : Hid (v12.heap.size ≠ v14.heap.size) := Nat.ne_of_lt (Nat.lt_of_lt_of_le B_c.out.lt (by omega))
      have B_d : Hid (Blk v15 (v14.heap.size) #[.int .i64 0, .int .i64 fm.A.n, .int .i64 fm.A.d, .int .i64 fm.B.n, .int .i64 fm.B.d, .int .i64 fm.C.n, .int .i64 fm.C.d, .int .i64 fm.D.n, .int .i64 fm.D.d] 37) := by show Blk v15 (v14.heap.size) _ _; rw [hv]; exact (Blk.new (by simp))
      have low_d : Hid (w.heap.size ≤ v14.heap.size) := by show w.heap.size ≤ v14.heap.size; have := HO.out.size; omega
      replace B_m : Hid (Blk v15 (v1.heap.size) #[.int .i64 m.A.n, .int .i64 m.A.d, .int .i64 m.B.n, .int .i64 m.B.d, .int .i64 m.C.n, .int .i64 m.C.d, .int .i64 m.D.n, .int .i64 m.D.d] 27) := by show Blk v15 (v1.heap.size) _ _; rw [hv]; exact (Blk.alloc B_m.out _)
      replace B_x : Hid (Blk v15 (v1.heap.size + 1) #[.int .i64 x.n, .int .i64 x.d] 25) := by show Blk v15 (v1.heap.size + 1) _ _; rw [hv]; exact (Blk.alloc B_x.out _)
      replace B_i : Hid (Blk v15 (v3.heap.size) #[.int .i64 0, .int .i64 bk.n, .int .i64 bk.d, .int .i64 sc.n, .int .i64 sc.d] 31) := by show Blk v15 (v3.heap.size) _ _; rw [hv]; exact (Blk.alloc B_i.out _)
      replace B_j : Hid (Blk v15 (v5.heap.size) #[.int .i64 0, .int .i64 bk.n, .int .i64 bk.d, .int .i64 sc.n, .int .i64 sc.d] 31) := by show Blk v15 (v5.heap.size) _ _; rw [hv]; exact (Blk.alloc B_j.out _)
      replace B_s : Hid (Blk v15 (v6.heap.size) #[.int .i64 1, .int .i64 x.n, .int .i64 x.d] 34) := by show Blk v15 (v6.heap.size) _ _; rw [hv]; exact (Blk.alloc B_s.out _)
      replace B_a : Hid (Blk v15 (v8.heap.size) #[.int .i64 0, .int .i64 1, .int .i64 1, .int .i64 x.n, .int .i64 x.d, .int .i64 0, .int .i64 1, .int .i64 1, .int .i64 1] 37) := by show Blk v15 (v8.heap.size) _ _; rw [hv]; exact (Blk.alloc B_a.out _)
      replace B_t : Hid (Blk v15 (v9.heap.size) #[.int .i64 1, .int .i64 bk.n, .int .i64 bk.d] 34) := by show Blk v15 (v9.heap.size) _ _; rw [hv]; exact (Blk.alloc B_t.out _)
      replace B_b : Hid (Blk v15 (v10.heap.size) #[.int .i64 0, .int .i64 1, .int .i64 1, .int .i64 bk.n, .int .i64 bk.d, .int .i64 0, .int .i64 1, .int .i64 1, .int .i64 1] 37) := by show Blk v15 (v10.heap.size) _ _; rw [hv]; exact (Blk.alloc B_b.out _)
      replace B_c : Hid (Blk v15 (v12.heap.size) #[.int .i64 0, .int .i64 m.A.n, .int .i64 m.A.d, .int .i64 ph.n, .int .i64 ph.d, .int .i64 m.C.n, .int .i64 m.C.d, .int .i64 pt.n, .int .i64 pt.d] 37) := by show Blk v15 (v12.heap.size) _ _; rw [hv]; exact (Blk.alloc B_c.out _)
      replace HO : Hid (Below w.heap.size w v15) := by show Below w.heap.size w v15; rw [hv]; exact (below_new HO.out _)
      clear hv
      obtain ⟨hB0, hA0⟩ := HF.out (by first | rfl | trivial | simp)
      have he25 := eql25_same
      clear HF
      have d_0 := B_d.out.cell (j := 0) rfl
      have d_1 := B_d.out.cell (j := 1) rfl
      have d_2 := B_d.out.cell (j := 2) rfl
      have d_3 := B_d.out.cell (j := 3) rfl
      have d_4 := B_d.out.cell (j := 4) rfl
      have d_5 := B_d.out.cell (j := 5) rfl
      have d_6 := B_d.out.cell (j := 6) rfl
      have d_7 := B_d.out.cell (j := 7) rfl
      have d_8 := B_d.out.cell (j := 8) rfl
      have d_f := B_d.out.frozen
      have d_z := B_d.out.lt
      have j_0 := B_j.out.cell (j := 0) rfl
      have j_1 := B_j.out.cell (j := 1) rfl
      have j_2 := B_j.out.cell (j := 2) rfl
      have j_3 := B_j.out.cell (j := 3) rfl
      have j_4 := B_j.out.cell (j := 4) rfl
      have j_f := B_j.out.frozen
      have j_z := B_j.out.lt
      rw [hB0] at d_3
      rw [hA0] at d_1 d_2
      clear hB0 hA0
      go_wp2
      go_ret
      exact ⟨rfl, HO.out⟩
    go_upto_region 17 with fail
    obtain ⟨v15, hv⟩ : ∃ Xw, Xw = (v14.alloc (.cells #[.int .i64 fc, .int .i64 fm.A.n, .int .i64 fm.A.d, .int .i64 fm.B.n, .int .i64 fm.B.d, .int .i64 fm.C.n, .int .i64 fm.C.d, .int .i64 fm.D.n, .int .i64 fm.D.d] 37)) := ⟨_, rfl⟩
    rw [← hv]
    have ne_m_d : Hid (v1.heap.size ≠ v14.heap.size) := Nat.ne_of_lt (Nat.lt_of_lt_of_le B_m.out.lt (by omega))
    have ne_x_d : Hid (v1.heap.size + 1 ≠ v14.heap.size) := Nat.ne_of_lt (Nat.lt_of_lt_of_le B_x.out.lt (by omega))
    have ne_i_d : Hid (v3.heap.size ≠ v14.heap.size) := Nat.ne_of_lt (Nat.lt_of_lt_of_le B_i.out.lt (by omega))
    have ne_j_d : Hid (v5.heap.size ≠ v14.heap.size) := Nat.ne_of_lt (Nat.lt_of_lt_of_le B_j.out.lt (by omega))
    have ne_s_d : Hid (v6.heap.size ≠ v14.heap.size) := Nat.ne_of_lt (Nat.lt_of_lt_of_le B_s.out.lt (by omega))
    have ne_a_d : Hid (v8.heap.size ≠ v14.heap.size) := Nat.ne_of_lt (Nat.lt_of_lt_of_le B_a.out.lt (by omega))
    have ne_t_d : Hid (v9.heap.size ≠ v14.heap.size) := Nat.ne_of_lt (Nat.lt_of_lt_of_le B_t.out.lt (by omega))
    have ne_b_d : Hid (v10.heap.size ≠ v14.heap.size) := Nat.ne_of_lt (Nat.lt_of_lt_of_le B_b.out.lt (by omega))
    have ne_c_d : Hid (v12.heap.size ≠ v14.heap.size) := Nat.ne_of_lt (Nat.lt_of_lt_of_le B_c.out.lt (by omega))
    have B_d : Hid (Blk v15 (v14.heap.size) #[.int .i64 fc, .int .i64 fm.A.n, .int .i64 fm.A.d, .int .i64 fm.B.n, .int .i64 fm.B.d, .int .i64 fm.C.n, .int .i64 fm.C.d, .int .i64 fm.D.n, .int .i64 fm.D.d] 37) := by show Blk v15 (v14.heap.size) _ _; rw [hv]; exact (Blk.new (by simp))
    have low_d : Hid (w.heap.size ≤ v14.heap.size) := by show w.heap.size ≤ v14.heap.size; have := HO.out.size; omega
    replace B_m : Hid (Blk v15 (v1.heap.size) #[.int .i64 m.A.n, .int .i64 m.A.d, .int .i64 m.B.n, .int .i64 m.B.d, .int .i64 m.C.n, .int .i64 m.C.d, .int .i64 m.D.n, .int .i64 m.D.d] 27) := by show Blk v15 (v1.heap.size) _ _; rw [hv]; exact (Blk.alloc B_m.out _)
    replace B_x : Hid (Blk v15 (v1.heap.size + 1) #[.int .i64 x.n, .int .i64 x.d] 25) := by show Blk v15 (v1.heap.size + 1) _ _; rw [hv]; exact (Blk.alloc B_x.out _)
    replace B_i : Hid (Blk v15 (v3.heap.size) #[.int .i64 0, .int .i64 bk.n, .int .i64 bk.d, .int .i64 sc.n, .int .i64 sc.d] 31) := by show Blk v15 (v3.heap.size) _ _; rw [hv]; exact (Blk.alloc B_i.out _)
    replace B_j : Hid (Blk v15 (v5.heap.size) #[.int .i64 0, .int .i64 bk.n, .int .i64 bk.d, .int .i64 sc.n, .int .i64 sc.d] 31) := by show Blk v15 (v5.heap.size) _ _; rw [hv]; exact (Blk.alloc B_j.out _)
    replace B_s : Hid (Blk v15 (v6.heap.size) #[.int .i64 1, .int .i64 x.n, .int .i64 x.d] 34) := by show Blk v15 (v6.heap.size) _ _; rw [hv]; exact (Blk.alloc B_s.out _)
    replace B_a : Hid (Blk v15 (v8.heap.size) #[.int .i64 0, .int .i64 1, .int .i64 1, .int .i64 x.n, .int .i64 x.d, .int .i64 0, .int .i64 1, .int .i64 1, .int .i64 1] 37) := by show Blk v15 (v8.heap.size) _ _; rw [hv]; exact (Blk.alloc B_a.out _)
    replace B_t : Hid (Blk v15 (v9.heap.size) #[.int .i64 1, .int .i64 bk.n, .int .i64 bk.d] 34) := by show Blk v15 (v9.heap.size) _ _; rw [hv]; exact (Blk.alloc B_t.out _)
    replace B_b : Hid (Blk v15 (v10.heap.size) #[.int .i64 0, .int .i64 1, .int .i64 1, .int .i64 bk.n, .int .i64 bk.d, .int .i64 0, .int .i64 1, .int .i64 1, .int .i64 1] 37) := by show Blk v15 (v10.heap.size) _ _; rw [hv]; exact (Blk.alloc B_b.out _)
    replace B_c : Hid (Blk v15 (v12.heap.size) #[.int .i64 0, .int .i64 m.A.n, .int .i64 m.A.d, .int .i64 ph.n, .int .i64 ph.d, .int .i64 m.C.n, .int .i64 m.C.d, .int .i64 pt.n, .int .i64 pt.d] 37) := by show Blk v15 (v12.heap.size) _ _; rw [hv]; exact (Blk.alloc B_c.out _)
    replace HO : Hid (Below w.heap.size w v15) := by show Below w.heap.size w v15; rw [hv]; exact (below_new HO.out _)
    clear hv
    have hcb : (fc != 0) = true := by simpa using hc
    have d_0 := B_d.out.cell (j := 0) rfl
    have d_1 := B_d.out.cell (j := 1) rfl
    have d_2 := B_d.out.cell (j := 2) rfl
    have d_3 := B_d.out.cell (j := 3) rfl
    have d_4 := B_d.out.cell (j := 4) rfl
    have d_5 := B_d.out.cell (j := 5) rfl
    have d_6 := B_d.out.cell (j := 6) rfl
    have d_7 := B_d.out.cell (j := 7) rfl
    have d_8 := B_d.out.cell (j := 8) rfl
    have d_f := B_d.out.frozen
    have d_z := B_d.out.lt
    go_wp2
    go_ret
    exact ⟨rfl, HO.out⟩
  obtain ⟨cz, hcz⟩ : ∃ c, c = imC m x := ⟨_, rfl⟩
  obtain ⟨bk, hbk⟩ : ∃ q, q = sel (imC m x) (nQ (bV m x)) := ⟨_, rfl⟩
  obtain ⟨sc, hsc⟩ : ∃ q, q = sel (imC m x) (cV m x) := ⟨_, rfl⟩
  have SI : Hid (∀ W, Calls Try.prog 6 #[.agg #[.int .i64 m.A.n, .int .i64 m.A.d, .int .i64 m.B.n, .int .i64 m.B.d, .int .i64 m.C.n, .int .i64 m.C.d, .int .i64 m.D.n, .int .i64 m.D.d], .agg #[.int .i64 x.n, .int .i64 x.d]] W fun e w' => e = .returned (.agg #[.int .i64 cz, .int .i64 bk.n, .int .i64 bk.d, .int .i64 sc.n, .int .i64 sc.d]) ∧ Below W.heap.size W w') := fun W => by have h := simg m x W; rw [← hbk, ← hsc, ← hcz] at h; exact h
  have II : Hid (∀ W, Calls Try.prog 7 #[.agg #[.int .i64 m.A.n, .int .i64 m.A.d, .int .i64 m.B.n, .int .i64 m.B.d, .int .i64 m.C.n, .int .i64 m.C.d, .int .i64 m.D.n, .int .i64 m.D.d], .agg #[.int .i64 x.n, .int .i64 x.d]] W fun e w' => e = .returned (.agg #[.int .i64 cz, .int .i64 bk.n, .int .i64 bk.d, .int .i64 sc.n, .int .i64 sc.d]) ∧ Below W.heap.size W w') := fun W => by have h := iimg m x W; rw [← hbk, ← hsc, ← hcz] at h; exact h
  rw [← hcz] at hi
  clear hcz hbk hsc
  have hcb : (cz != 0) = true := by simpa using hi
  have m_0 := B_m.out.cell (j := 0) rfl
  have m_1 := B_m.out.cell (j := 1) rfl
  have m_2 := B_m.out.cell (j := 2) rfl
  have m_3 := B_m.out.cell (j := 3) rfl
  have m_4 := B_m.out.cell (j := 4) rfl
  have m_5 := B_m.out.cell (j := 5) rfl
  have m_6 := B_m.out.cell (j := 6) rfl
  have m_7 := B_m.out.cell (j := 7) rfl
  have m_f := B_m.out.frozen
  have m_z := B_m.out.lt
  have x_0 := B_x.out.cell (j := 0) rfl
  have x_1 := B_x.out.cell (j := 1) rfl
  have x_f := B_x.out.frozen
  have x_z := B_x.out.lt
  go_wp2_with fail
  refine (SI.out _).mono ?_
  rintro e v3 ⟨rfl, hb⟩
  clear m_0 m_1 m_2 m_3 m_4 m_5 m_6 m_7 m_f m_z x_0 x_1 x_f x_z
  replace B_m : Hid (Blk v3 (v1.heap.size) #[.int .i64 m.A.n, .int .i64 m.A.d, .int .i64 m.B.n, .int .i64 m.B.d, .int .i64 m.C.n, .int .i64 m.C.d, .int .i64 m.D.n, .int .i64 m.D.d] 27) := by show Blk v3 (v1.heap.size) _ _; exact Blk.old B_m.out hb
  replace B_x : Hid (Blk v3 (v1.heap.size + 1) #[.int .i64 x.n, .int .i64 x.d] 25) := by show Blk v3 (v1.heap.size + 1) _ _; exact Blk.old B_x.out hb
  replace HO : Hid (Below w.heap.size w v3) := box_step HO.out hb (Nat.le_refl _)
  clear hb
  clear SI
  go_upto_region 5 with fail
  obtain ⟨v4, hv⟩ : ∃ Xw, Xw = (v3.alloc (.cells #[.int .i64 cz, .int .i64 bk.n, .int .i64 bk.d, .int .i64 sc.n, .int .i64 sc.d] 31)) := ⟨_, rfl⟩
  rw [← hv]
  have ne_m_i : Hid (v1.heap.size ≠ v3.heap.size) := Nat.ne_of_lt (Nat.lt_of_lt_of_le B_m.out.lt (by omega))
  have ne_x_i : Hid (v1.heap.size + 1 ≠ v3.heap.size) := Nat.ne_of_lt (Nat.lt_of_lt_of_le B_x.out.lt (by omega))
  have B_i : Hid (Blk v4 (v3.heap.size) #[.int .i64 cz, .int .i64 bk.n, .int .i64 bk.d, .int .i64 sc.n, .int .i64 sc.d] 31) := by show Blk v4 (v3.heap.size) _ _; rw [hv]; exact (Blk.new (by simp))
  have low_i : Hid (w.heap.size ≤ v3.heap.size) := by show w.heap.size ≤ v3.heap.size; have := HO.out.size; omega
  replace B_m : Hid (Blk v4 (v1.heap.size) #[.int .i64 m.A.n, .int .i64 m.A.d, .int .i64 m.B.n, .int .i64 m.B.d, .int .i64 m.C.n, .int .i64 m.C.d, .int .i64 m.D.n, .int .i64 m.D.d] 27) := by show Blk v4 (v1.heap.size) _ _; rw [hv]; exact (Blk.alloc B_m.out _)
  replace B_x : Hid (Blk v4 (v1.heap.size + 1) #[.int .i64 x.n, .int .i64 x.d] 25) := by show Blk v4 (v1.heap.size + 1) _ _; rw [hv]; exact (Blk.alloc B_x.out _)
  replace HO : Hid (Below w.heap.size w v4) := by show Below w.heap.size w v4; rw [hv]; exact (below_new HO.out _)
  clear hv
  have i_0 := B_i.out.cell (j := 0) rfl
  have i_1 := B_i.out.cell (j := 1) rfl
  have i_2 := B_i.out.cell (j := 2) rfl
  have i_3 := B_i.out.cell (j := 3) rfl
  have i_4 := B_i.out.cell (j := 4) rfl
  have i_f := B_i.out.frozen
  have i_z := B_i.out.lt
  go_upto_region 6 with fail
  clear i_0 i_1 i_2 i_3 i_4 i_f i_z
  have k_m_0 : ∀ W, Below v4.heap.size v4 W → W.cell? ⟨v1.heap.size, 0, none⟩ = some (.int .i64 m.A.n) := fun _ h => kold h (B_m.out.cell (j := 0) rfl)
  have k_m_1 : ∀ W, Below v4.heap.size v4 W → W.cell? ⟨v1.heap.size, 1, none⟩ = some (.int .i64 m.A.d) := fun _ h => kold h (B_m.out.cell (j := 1) rfl)
  have k_m_2 : ∀ W, Below v4.heap.size v4 W → W.cell? ⟨v1.heap.size, 2, none⟩ = some (.int .i64 m.B.n) := fun _ h => kold h (B_m.out.cell (j := 2) rfl)
  have k_m_3 : ∀ W, Below v4.heap.size v4 W → W.cell? ⟨v1.heap.size, 3, none⟩ = some (.int .i64 m.B.d) := fun _ h => kold h (B_m.out.cell (j := 3) rfl)
  have k_m_4 : ∀ W, Below v4.heap.size v4 W → W.cell? ⟨v1.heap.size, 4, none⟩ = some (.int .i64 m.C.n) := fun _ h => kold h (B_m.out.cell (j := 4) rfl)
  have k_m_5 : ∀ W, Below v4.heap.size v4 W → W.cell? ⟨v1.heap.size, 5, none⟩ = some (.int .i64 m.C.d) := fun _ h => kold h (B_m.out.cell (j := 5) rfl)
  have k_m_6 : ∀ W, Below v4.heap.size v4 W → W.cell? ⟨v1.heap.size, 6, none⟩ = some (.int .i64 m.D.n) := fun _ h => kold h (B_m.out.cell (j := 6) rfl)
  have k_m_7 : ∀ W, Below v4.heap.size v4 W → W.cell? ⟨v1.heap.size, 7, none⟩ = some (.int .i64 m.D.d) := fun _ h => kold h (B_m.out.cell (j := 7) rfl)
  have k_x_0 : ∀ W, Below v4.heap.size v4 W → W.cell? ⟨v1.heap.size + 1, 0, none⟩ = some (.int .i64 x.n) := fun _ h => kold h (B_x.out.cell (j := 0) rfl)
  have k_x_1 : ∀ W, Below v4.heap.size v4 W → W.cell? ⟨v1.heap.size + 1, 1, none⟩ = some (.int .i64 x.d) := fun _ h => kold h (B_x.out.cell (j := 1) rfl)
  have k_i_0 : ∀ W, Below v4.heap.size v4 W → W.cell? ⟨v3.heap.size, 0, none⟩ = some (.int .i64 cz) := fun _ h => kold h (B_i.out.cell (j := 0) rfl)
  have k_i_1 : ∀ W, Below v4.heap.size v4 W → W.cell? ⟨v3.heap.size, 1, none⟩ = some (.int .i64 bk.n) := fun _ h => kold h (B_i.out.cell (j := 1) rfl)
  have k_i_2 : ∀ W, Below v4.heap.size v4 W → W.cell? ⟨v3.heap.size, 2, none⟩ = some (.int .i64 bk.d) := fun _ h => kold h (B_i.out.cell (j := 2) rfl)
  have k_i_3 : ∀ W, Below v4.heap.size v4 W → W.cell? ⟨v3.heap.size, 3, none⟩ = some (.int .i64 sc.n) := fun _ h => kold h (B_i.out.cell (j := 3) rfl)
  have k_i_4 : ∀ W, Below v4.heap.size v4 W → W.cell? ⟨v3.heap.size, 4, none⟩ = some (.int .i64 sc.d) := fun _ h => kold h (B_i.out.cell (j := 4) rfl)
  have hR0 : Below v4.heap.size v4 v4 := Below.refl _ _
  have hf31 := field31_0
  go_region_held (fun W => Below v4.heap.size v4 W) (first | with_reducible assumption | with_reducible exact Below.drew ‹_›)
    (first | (go_at_call 7; refine (II.out _).mono ?_; rintro e u1 ⟨rfl, hb1⟩; have hR1 : Below v4.heap.size v4 u1 := box_step ‹_› hb1 (Nat.le_refl _)))
  all_goals
    go_wp2
    go_ret
    exact ⟨by simp, (by first | exact HO.out.trans (Below.mono hR1 HO.out.size) | exact Below.drew (HO.out.trans (Below.mono hR1 HO.out.size)) | exact HO.out.trans (Below.mono (Below.drew hR1) HO.out.size))⟩

set_option maxRecDepth 100000 in
theorem lifted (os : Os) (started : os.Started) (H : Type) (enc : TypeId × Value → H) :
    ReturnsInHanded {} Try.checked os 3 .any (Rows.fnImagesSpec.pre6 enc Try.prog Try.f3 Rows.fnImagesRow.domain false) (Rows.fnImagesSpec.post enc Try.prog Try.f3 false true false false) := by
  refine returnsInHanded_of_change (C := Try.checked) own started (by kernel_rfl) Try.func3
    (ChangeSpec.witness6 (enc := enc) (C := Try.checked) false ⟨#[], #[.slice none 0 0], []⟩ 8 (by kernel_rfl) (by kernel_rfl) (by kernel_rfl) (by kernel_rfl)) ?_
  intro W base args ds gs before hval0 hW hcnd _
  have hval : ∀ (j : Nat) t v, Try.f3.params[j]? = some t → args[j]? = some v → Value.okWide Try.prog W .any base t v := hval0
  have hW' := hW
  obtain ⟨p, q, hA0, hV, rfl, hfz, hnd⟩ := hW
  have hA : DataW.TrodAll enc Try.prog W 0 (fun _ => true) true Try.f3.params.toList args.toList ds p := hA0
  rw [Try.params3] at hA hval
  obtain ⟨v0, vs0, d0, ds0, p0, q0, hargs, rfl, rfl, h0, r0⟩ := trodAll_cons hA
  obtain ⟨rfl, rfl, rfl⟩ := trodAll_nil r0
  obtain rfl : args = #[v0] := by cases args; simp_all
  obtain ⟨rfl, rfl⟩ := trodVars_none hV
  have k0 := h0
  have lt0 : ∀ x ∈ p0, x.block < W.heap.size := by obtain ⟨m, hm⟩ := k0; exact DataW.trod_lt m _ _ _ hm
  obtain ⟨n0, F0, R0, nb0, fb0⟩ := open_bytes (hval 0 22 v0 rfl rfl) h0
  clear hA0 hval0
  refine (walk R0 nb0 fb0).mono fun e W' ⟨he, bel⟩ => ?_
  subst he
  exact ⟨_, rfl, _, _, _, [], _, [], hW', trodAll_mk1 (shut_bool Try.underlying4 _), (trodAll_cons_mk (Below.trod laidOut (by kernel_rfl) (of_decide_eq_true (by kernel_rfl)) k0 bel lt0) trodAll_mk0), rfl, bel.frame _, fun h => by cases h⟩

theorem over : Rows.fnImagesRow.holds Try.pinned (OpenSpec.ofChange Rows.fnImagesSpec) :=
  OpenClaim.holds_of_wide 3 Try.f3 rfl rfl rfl rfl rfl rfl rfl ⟨rfl, rfl, rfl, rfl, rfl⟩ rfl rfl rfl rfl rfl (by kernel_rfl) Try.func3 (by kernel_rfl)
    (of_decide_eq_true (by kernel_rfl)) (by unfold Func.isWrapper; first | (rw [if_pos (by decide +kernel)]; kernel_rfl) | (rw [if_neg (by decide +kernel)]; exact ⟨rfl, rfl⟩))
    (fun os started H enc _ => lifted os started H enc)
end Go.Proofs.Ytdmjfphmgpkfcaa.LawImages
namespace Go.Proofs.Ytdmjfphmgpkfcaa
theorem images_holds : Rows.FnImagesSaid := LawImages.over
#print axioms images_holds
end Go.Proofs.Ytdmjfphmgpkfcaa
