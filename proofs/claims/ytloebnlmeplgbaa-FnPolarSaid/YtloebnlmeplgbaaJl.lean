/- The light that the program takes to be the one; what JonesFrom of the program answers. -/
import Derived.Test.YtloebnlmeplgbaaJr
import Derived.Handy
namespace Go.Proofs.Ytloebnlmeplgbaa
open Go.RowKit
set_option linter.unusedVariables false
set_option linter.unusedSimpArgs false
theorem quo_wrap {x d : Int} (h0 : -2000000000 ≤ x) (h1 : x ≤ 2000000000) (hd : 0 < d) : wrap64 (x.tdiv d) = x.tdiv d := by
  have h := Int.natAbs_tdiv_le_natAbs x d
  exact w64 (by omega) (by omega)
set_option maxRecDepth 20000 in
set_option maxHeartbeats 3200000 in
theorem ilikely (a : Sk) (hs : scode a = 0) (w : World) : Calls Try.prog 76 #[.agg #[.int .i64 a.i, .int .i64 a.q, .int .i64 a.u, .int .i64 a.v]] w fun e w' => ∃ l : Jn, e = .returned (.agg #[.int .i64 l.x.re, .int .i64 l.x.im, .int .i64 l.y.re, .int .i64 l.y.im]) ∧ Lik a l ∧ Below w.heap.size w w' := by
  obtain ⟨bi, bq, bu, bv, hi, h1, h2⟩ := scode_t hs
  obtain ⟨S1, hS1⟩ : ∃ x, x = a.i + a.q := ⟨_, rfl⟩
  have e1 : wrap64 (a.i + a.q) = S1 := by rw [hS1]; exact w64 (by omega) (by omega)
  obtain ⟨H1, hH1⟩ : ∃ x, x = S1 / 2 := ⟨_, rfl⟩
  have e2 : S1.tdiv 2 = H1 := by rw [hH1]; exact half_of (by omega)
  have e2w : wrap64 H1 = H1 := w64 (by omega) (by omega)
  obtain ⟨S2, hS2⟩ : ∃ x, x = a.i - a.q := ⟨_, rfl⟩
  have e3 : wrap64 (a.i - a.q) = S2 := by rw [hS2]; exact w64 (by omega) (by omega)
  obtain ⟨H2, hH2⟩ : ∃ x, x = S2 / 2 := ⟨_, rfl⟩
  have e4 : S2.tdiv 2 = H2 := by rw [hH2]; exact half_of (by omega)
  have e4w : wrap64 H2 = H2 := w64 (by omega) (by omega)
  have HB : Hid (0 ≤ H1 ∧ H1 ≤ 2000000000 ∧ 0 ≤ H2 ∧ H2 ≤ 2000000000 ∧ H1 = (a.i + a.q) / 2 ∧ H2 = (a.i - a.q) / 2 ∧ (-2000000000 ≤ a.u ∧ a.u ≤ 2000000000) ∧ (-2000000000 ≤ a.v ∧ a.v ≤ 2000000000)) := ⟨by omega, by omega, by omega, by omega, by rw [hH1, hS1], by rw [hH2, hS2], bu, bv⟩
  clear bi bq bu bv hi h1 h2 hS1 hS2 hH1 hH2 hs
  go_enter Try.func76, Try.ntmps76
  have HO : Hid (Below w.heap.size w w) := Below.refl _ _
  go_upto_region 1 with fail
  obtain ⟨v1, hv⟩ : ∃ Xw, Xw = ((w.alloc (.cells #[.int .i64 a.i, .int .i64 a.q, .int .i64 a.u, .int .i64 a.v] 36)).alloc (.cells #[.int .i64 0, .int .i64 0, .int .i64 0, .int .i64 0] 29)) := ⟨_, rfl⟩
  rw [← hv]
  have ne_p_r : Hid (w.heap.size ≠ w.heap.size + 1) := by show (w.heap.size : Nat) ≠ w.heap.size + 1; omega
  have B_p : Hid (Blk v1 (w.heap.size) #[.int .i64 a.i, .int .i64 a.q, .int .i64 a.u, .int .i64 a.v] 36) := by show Blk v1 (w.heap.size) _ _; rw [hv]; exact (Blk.alloc (Blk.new (by simp)) _)
  have low_p : Hid (w.heap.size ≤ w.heap.size) := by show w.heap.size ≤ w.heap.size; have := HO.out.size; omega
  have B_r : Hid (Blk v1 (w.heap.size + 1) #[.int .i64 0, .int .i64 0, .int .i64 0, .int .i64 0] 29) := by show Blk v1 (w.heap.size + 1) _ _; rw [hv]; exact (Blk.new (by simp))
  have low_r : Hid (w.heap.size ≤ w.heap.size + 1) := by show w.heap.size ≤ w.heap.size + 1; have := HO.out.size; omega
  replace HO : Hid (Below w.heap.size w v1) := by show Below w.heap.size w v1; rw [hv]; exact (below_new (below_new HO.out _) _)
  clear hv
  have p_0 := B_p.out.cell (j := 0) rfl
  have p_1 := B_p.out.cell (j := 1) rfl
  have p_2 := B_p.out.cell (j := 2) rfl
  have p_3 := B_p.out.cell (j := 3) rfl
  have p_f := B_p.out.frozen
  have p_z := B_p.out.lt
  go_wp2_with fail
  refine (iroot_any H1 HB.out.1 HB.out.2.1 _).mono ?_
  rintro e v2 ⟨x, rfl, x0, x1, hX, hb⟩
  clear p_0 p_1 p_2 p_3 p_f p_z
  replace B_p : Hid (Blk v2 (w.heap.size) #[.int .i64 a.i, .int .i64 a.q, .int .i64 a.u, .int .i64 a.v] 36) := by show Blk v2 (w.heap.size) _ _; exact Blk.old B_p.out hb
  replace B_r : Hid (Blk v2 (w.heap.size + 1) #[.int .i64 0, .int .i64 0, .int .i64 0, .int .i64 0] 29) := by show Blk v2 (w.heap.size + 1) _ _; exact Blk.old B_r.out hb
  replace HO : Hid (Below w.heap.size w v2) := box_step HO.out hb (Nat.le_refl _)
  clear hb
  have HX : Hid (0 ≤ x ∧ x ≤ 50000 ∧ ∀ r : Int, 0 ≤ r → r ≤ 30000 → r * r = H1 → x = r) := ⟨x0, x1, hX⟩
  clear x0 x1 hX
  by_cases hx : x = 0
  · skip
    have p_0 := B_p.out.cell (j := 0) rfl
    have p_1 := B_p.out.cell (j := 1) rfl
    have p_2 := B_p.out.cell (j := 2) rfl
    have p_3 := B_p.out.cell (j := 3) rfl
    have p_f := B_p.out.frozen
    have p_z := B_p.out.lt
    go_wp2_with fail
    refine (iroot_any H2 HB.out.2.2.1 HB.out.2.2.2.1 _).mono ?_
    rintro e v3 ⟨y, rfl, y0, y1, hY, hb⟩
    clear p_0 p_1 p_2 p_3 p_f p_z
    replace B_p : Hid (Blk v3 (w.heap.size) #[.int .i64 a.i, .int .i64 a.q, .int .i64 a.u, .int .i64 a.v] 36) := by show Blk v3 (w.heap.size) _ _; exact Blk.old B_p.out hb
    replace B_r : Hid (Blk v3 (w.heap.size + 1) #[.int .i64 0, .int .i64 0, .int .i64 0, .int .i64 0] 29) := by show Blk v3 (w.heap.size + 1) _ _; exact Blk.old B_r.out hb
    replace HO : Hid (Below w.heap.size w v3) := box_step HO.out hb (Nat.le_refl _)
    clear hb
    have HY : Hid (0 ≤ y ∧ ∀ r : Int, 0 ≤ r → r ≤ 30000 → r * r = H2 → y = r) := ⟨y0, hY⟩
    clear y0 y1 hY
    have r_0 := B_r.out.cell (j := 0) rfl
    have r_1 := B_r.out.cell (j := 1) rfl
    have r_2 := B_r.out.cell (j := 2) rfl
    have r_3 := B_r.out.cell (j := 3) rfl
    have r_f := B_r.out.frozen
    have r_z := B_r.out.lt
    go_wp2
    refine bodyPost_ret (v := .agg #[.int .i64 0, .int .i64 0, .int .i64 y, .int .i64 0]) (by simp [results, Try.results76, go_sem, r_0, r_1, r_2, r_3, r_f, r_z] <;> (repeat' (first | rfl | apply And.intro))) rfl ⟨⟨⟨0, 0⟩, ⟨y, 0⟩⟩, rfl, lik_nought hx (by rw [← HB.out.2.2.2.2.1]; exact HX.out.2.2) HY.out.1 (by rw [← HB.out.2.2.2.2.2.1]; exact HY.out.2), ?_⟩
    exact (Below.setCell (Below.setCell (Below.setCell (Below.setCell HO.out low_r.out _) low_r.out _) low_r.out _) low_r.out _)
  · skip
    obtain ⟨d, hd⟩ : ∃ d, d = 2 * x := ⟨_, rfl⟩
    have hx0 : 0 < x := by have := HX.out.1; omega
    have d1 : wrap64 (2 * x) = d := by rw [hd]; exact w64 (by have := HX.out; omega) (by have := HX.out; omega)
    have dn : ¬ (d = 0) := by omega
    obtain ⟨P, hP⟩ : ∃ P, P = a.u.tdiv d := ⟨_, rfl⟩
    have q1 : wrap64 (a.u.tdiv d) = P := by rw [hP]; exact quo_wrap HB.out.2.2.2.2.2.2.1.1 HB.out.2.2.2.2.2.2.1.2 (by omega)
    obtain ⟨N, hN⟩ : ∃ N, N = -a.v := ⟨_, rfl⟩
    have q2 : wrap64 (-a.v) = N := by rw [hN]; have := HB.out.2.2.2.2.2.2.2; exact w64 (by omega) (by omega)
    obtain ⟨R, hR⟩ : ∃ R, R = N.tdiv d := ⟨_, rfl⟩
    have q3 : wrap64 (N.tdiv d) = R := by rw [hR]; exact quo_wrap (by rw [hN]; have := HB.out.2.2.2.2.2.2.2; omega) (by rw [hN]; have := HB.out.2.2.2.2.2.2.2; omega) (by omega)
    have d1i : IntKind.i64.wrap (2 * x) = _ := (wi64 _).trans d1
    have q1i : IntKind.i64.wrap (a.u.tdiv d) = _ := (wi64 _).trans q1
    have q2i : IntKind.i64.wrap (-a.v) = _ := (wi64 _).trans q2
    have q3i : IntKind.i64.wrap (N.tdiv d) = _ := (wi64 _).trans q3
    have HL : Hid (Lik a ⟨⟨x, 0⟩, ⟨P, R⟩⟩) := lik_some hx0 (by rw [← HB.out.2.2.2.2.1]; exact HX.out.2.2) (by rw [hP, hd]) (by rw [hR, hN, hd])
    clear hd hP hN hR hx0
    go_upto_region 4 with fail
    have k_p_0 : ∀ x : Kept v2.heap.size v2, x.w.cell? ⟨w.heap.size, 0, none⟩ = some (.int .i64 a.i) := fun x => x.cell B_p.out.lt (B_p.out.cell (j := 0) rfl)
    have k_p_1 : ∀ x : Kept v2.heap.size v2, x.w.cell? ⟨w.heap.size, 1, none⟩ = some (.int .i64 a.q) := fun x => x.cell B_p.out.lt (B_p.out.cell (j := 1) rfl)
    have k_p_2 : ∀ x : Kept v2.heap.size v2, x.w.cell? ⟨w.heap.size, 2, none⟩ = some (.int .i64 a.u) := fun x => x.cell B_p.out.lt (B_p.out.cell (j := 2) rfl)
    have k_p_3 : ∀ x : Kept v2.heap.size v2, x.w.cell? ⟨w.heap.size, 3, none⟩ = some (.int .i64 a.v) := fun x => x.cell B_p.out.lt (B_p.out.cell (j := 3) rfl)
    refine wp_region_last' v2.heap.size (by kernel_rfl) rfl rfl (by kernel_rfl) (lastOk_of (by kernel_rfl)) ?_
    intro hne
    dsimp only [List.dropLast]
    repeat (go_big_quiet_step (fail))
    refine wpQuiet_nil ?_
    rintro u3 ⟨xk, hxk⟩
    have hR1 := xk.h
    rw [← hxk] at hR1
    clear hxk xk hne k_p_0 k_p_1 k_p_2 k_p_3
    replace B_p : Hid (Blk u3 (w.heap.size) #[.int .i64 a.i, .int .i64 a.q, .int .i64 a.u, .int .i64 a.v] 36) := by show Blk u3 (w.heap.size) _ _; exact Blk.old B_p.out hR1
    replace B_r : Hid (Blk u3 (w.heap.size + 1) #[.int .i64 0, .int .i64 0, .int .i64 0, .int .i64 0] 29) := by show Blk u3 (w.heap.size + 1) _ _; exact Blk.old B_r.out hR1
    replace HO : Hid (Below w.heap.size w u3) := HO.out.trans (hR1.mono HO.out.size)
    clear hR1
    have r_f := B_r.out.frozen
    have r_0 := B_r.out.cell (j := 0) rfl
    have r_1 := B_r.out.cell (j := 1) rfl
    have r_2 := B_r.out.cell (j := 2) rfl
    have r_3 := B_r.out.cell (j := 3) rfl
    have r_z := B_r.out.lt
    go_wp2
    refine bodyPost_ret (v := .agg #[.int .i64 x, .int .i64 0, .int .i64 P, .int .i64 R]) (by simp [results, Try.results76, go_sem, r_0, r_1, r_2, r_3, r_f, r_z] <;> (repeat' (first | rfl | apply And.intro))) rfl ⟨⟨⟨x, 0⟩, ⟨P, R⟩⟩, rfl, HL.out, ?_⟩
    exact (Below.setCell (Below.setCell (Below.setCell (Below.setCell HO.out low_r.out _) low_r.out _) low_r.out _) low_r.out _)
end Go.Proofs.Ytloebnlmeplgbaa
