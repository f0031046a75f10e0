/- What JonesFrom of the specification answers. -/
import Derived.Test.YtloebnlmeplgbaaJe
import Derived.Handy
namespace Go.Proofs.Ytloebnlmeplgbaa
open Go.RowKit
set_option linter.unusedVariables false
set_option linter.unusedSimpArgs false
theorem jans_none {a : Sk} (hs : scode a = 0) (h : ∀ m, ¬ Fnd a m) : JAns a 4 ⟨⟨0, 0⟩, ⟨0, 0⟩⟩ := Or.inr (Or.inr ⟨hs, rfl, rfl, h⟩)
theorem even_tmod {x y : Int} (h : x = 2 * y) : x.tmod 2 = 0 := by rw [h]; exact Int.mul_tmod_right _ _
theorem tmod_bound (x : Int) {d : Int} (hd : 0 < d) (hd2 : d ≤ 1000000000000) : wrap64 (x.tmod d) = x.tmod d := by
  have h1 := Int.tmod_lt_of_pos x hd
  have h2 : -d < x.tmod d := by
    have h := Int.tmod_lt_of_pos (-x) hd
    rw [Int.neg_tmod] at h
    omega
  exact w64 (by omega) (by omega)
set_option maxRecDepth 20000 in
set_option maxHeartbeats 40000000 in
theorem sjf (a : Sk) (w : World) : Calls Try.prog 25 #[.agg #[.int .i64 a.i, .int .i64 a.q, .int .i64 a.u, .int .i64 a.v]] w fun e w' => ∃ c l, e = .returned (.agg #[.int .i64 c, .int .i64 l.x.re, .int .i64 l.x.im, .int .i64 l.y.re, .int .i64 l.y.im]) ∧ JAns a c l ∧ Below w.heap.size w w' := by
  go_enter Try.func25, Try.ntmps25
  have HO : Hid (Below w.heap.size w w) := Below.refl _ _
  go_upto_region 1 with fail
  obtain ⟨v1, hv⟩ : ∃ Xw, Xw = ((w.alloc (.cells #[.int .i64 a.i, .int .i64 a.q, .int .i64 a.u, .int .i64 a.v] 36)).alloc (.cells #[.int .i64 0, .int .i64 0, .int .i64 0, .int .i64 0, .int .i64 0] 33)) := ⟨_, rfl⟩
  rw [← hv]
  have ne_p_r : Hid (w.heap.size ≠ w.heap.size + 1) := by show (w.heap.size : Nat) ≠ w.heap.size + 1; omega
  have B_p : Hid (Blk v1 (w.heap.size) #[.int .i64 a.i, .int .i64 a.q, .int .i64 a.u, .int .i64 a.v] 36) := by show Blk v1 (w.heap.size) _ _; rw [hv]; exact (Blk.alloc (Blk.new (by simp)) _)
  have low_p : Hid (w.heap.size ≤ w.heap.size) := by show w.heap.size ≤ w.heap.size; have := HO.out.size; omega
  have B_r : Hid (Blk v1 (w.heap.size + 1) #[.int .i64 0, .int .i64 0, .int .i64 0, .int .i64 0, .int .i64 0] 33) := by show Blk v1 (w.heap.size + 1) _ _; rw [hv]; exact (Blk.new (by simp))
  have low_r : Hid (w.heap.size ≤ w.heap.size + 1) := by show w.heap.size ≤ w.heap.size + 1; have := HO.out.size; omega
  replace HO : Hid (Below w.heap.size w v1) := by show Below w.heap.size w v1; rw [hv]; exact (below_new (below_new HO.out _) _)
  clear hv
  have p_0 := B_p.out.cell (j := 0) rfl
  have p_1 := B_p.out.cell (j := 1) rfl
  have p_2 := B_p.out.cell (j := 2) rfl
  have p_3 := B_p.out.cell (j := 3) rfl
  have p_f := B_p.out.frozen
  have p_z := B_p.out.lt
  go_wp2_with fail
  refine (sstokF a _).mono ?_
  rintro e v2 ⟨rfl, hb⟩
  clear p_0 p_1 p_2 p_3 p_f p_z
  replace B_p : Hid (Blk v2 (w.heap.size) #[.int .i64 a.i, .int .i64 a.q, .int .i64 a.u, .int .i64 a.v] 36) := by show Blk v2 (w.heap.size) _ _; exact Blk.old B_p.out hb
  replace B_r : Hid (Blk v2 (w.heap.size + 1) #[.int .i64 0, .int .i64 0, .int .i64 0, .int .i64 0, .int .i64 0] 33) := by show Blk v2 (w.heap.size + 1) _ _; exact Blk.old B_r.out hb
  replace HO : Hid (Below w.heap.size w v2) := box_step HO.out hb (Nat.le_refl _)
  clear hb
  by_cases hs : scode a = 0
  · skip
    rw [hs]
    obtain ⟨bi, bq, bu, bv, hi, g1, g2⟩ := scode_t hs
    replace hs : Hid (scode a = 0) := hs
    have sI : 0 ≤ a.i * a.i ∧ a.i * a.i ≤ 4000000000000000000 := ⟨sq_pos _, sq_le (m := 2000000000) bi.1 bi.2⟩
    obtain ⟨I2, eI⟩ : ∃ x, x = a.i * a.i := ⟨_, rfl⟩
    rw [← eI] at sI
    have wI : wrap64 (a.i * a.i) = I2 := by rw [← eI]; exact w64 (by omega) (by omega)
    have sQ : 0 ≤ a.q * a.q ∧ a.q * a.q ≤ 4000000000000000000 := ⟨sq_pos _, sq_le (m := 2000000000) bq.1 bq.2⟩
    obtain ⟨Q2, eQ⟩ : ∃ x, x = a.q * a.q := ⟨_, rfl⟩
    rw [← eQ] at sQ
    have wQ : wrap64 (a.q * a.q) = Q2 := by rw [← eQ]; exact w64 (by omega) (by omega)
    have sU : 0 ≤ a.u * a.u ∧ a.u * a.u ≤ 4000000000000000000 := ⟨sq_pos _, sq_le (m := 2000000000) bu.1 bu.2⟩
    obtain ⟨U2, eU⟩ : ∃ x, x = a.u * a.u := ⟨_, rfl⟩
    rw [← eU] at sU
    have wU : wrap64 (a.u * a.u) = U2 := by rw [← eU]; exact w64 (by omega) (by omega)
    have sV : 0 ≤ a.v * a.v ∧ a.v * a.v ≤ 4000000000000000000 := ⟨sq_pos _, sq_le (m := 2000000000) bv.1 bv.2⟩
    obtain ⟨V2, eV⟩ : ∃ x, x = a.v * a.v := ⟨_, rfl⟩
    rw [← eV] at sV
    have wV : wrap64 (a.v * a.v) = V2 := by rw [← eV]; exact w64 (by omega) (by omega)
    obtain ⟨D1, hD1⟩ : ∃ x, x = I2 - Q2 := ⟨_, rfl⟩
    have wD1 : wrap64 (I2 - Q2) = D1 := by rw [hD1]; exact w64 (by omega) (by omega)
    obtain ⟨D2, hD2⟩ : ∃ x, x = D1 - U2 := ⟨_, rfl⟩
    have wD2 : wrap64 (D1 - U2) = D2 := by rw [hD2]; exact w64 (by omega) (by omega)
    obtain ⟨S1, hS1⟩ : ∃ x, x = a.i + a.q := ⟨_, rfl⟩
    have e1 : wrap64 (a.i + a.q) = S1 := by rw [hS1]; exact w64 (by omega) (by omega)
    have e1m := tmod_bound S1 (d := 2) (by omega) (by omega)
    obtain ⟨H1, hH1⟩ : ∃ x, x = S1 / 2 := ⟨_, rfl⟩
    have e2 : S1.tdiv 2 = H1 := by rw [hH1]; exact half_of (by omega)
    have e2w : wrap64 H1 = H1 := w64 (by omega) (by omega)
    obtain ⟨S2, hS2⟩ : ∃ x, x = a.i - a.q := ⟨_, rfl⟩
    have e3 : wrap64 (a.i - a.q) = S2 := by rw [hS2]; exact w64 (by omega) (by omega)
    obtain ⟨H2, hH2⟩ : ∃ x, x = S2 / 2 := ⟨_, rfl⟩
    have e4 : S2.tdiv 2 = H2 := by rw [hH2]; exact half_of (by omega)
    have e4w : wrap64 H2 = H2 := w64 (by omega) (by omega)
    have HB : Hid (0 ≤ H1 ∧ H1 ≤ 2000000000 ∧ 0 ≤ H2 ∧ H2 ≤ 2000000000 ∧ H1 = (a.i + a.q) / 2 ∧ H2 = (a.i - a.q) / 2 ∧ (-2000000000 ≤ a.u ∧ a.u ≤ 2000000000) ∧ (-2000000000 ≤ a.v ∧ a.v ≤ 2000000000)) := ⟨by omega, by omega, by omega, by omega, by rw [hH1, hS1], by rw [hH2, hS2], bu, bv⟩
    have HD : Hid ((∃ m, Fnd a m) → D2 = V2 ∧ S1.tmod 2 = 0) := by
      rintro ⟨m, hm⟩
      obtain ⟨q1, _, _, _, _, _, q7⟩ := hm.eqs
      rw [← eI, ← eQ, ← eU, ← eV] at q7
      exact ⟨by omega, even_tmod (hS1.trans q1)⟩
    clear bi bq bu bv hi g1 g2 sI sQ sU sV eI eQ eU eV hD1 hD2 hS1 hS2 hH1 hH2
    go_upto_region 5 with fail
    obtain ⟨v3, hv⟩ : ∃ Xw, Xw = (v2.alloc (.cells #[.int .i64 4, .int .i64 0, .int .i64 0, .int .i64 0, .int .i64 0] 33)) := ⟨_, rfl⟩
    rw [← hv]
    have ne_p_n : Hid (w.heap.size ≠ v2.heap.size) := Nat.ne_of_lt (Nat.lt_of_lt_of_le B_p.out.lt (by omega))
    have ne_r_n : Hid (w.heap.size + 1 ≠ v2.heap.size) := Nat.ne_of_lt (Nat.lt_of_lt_of_le B_r.out.lt (by omega))
    have B_n : Hid (Blk v3 (v2.heap.size) #[.int .i64 4, .int .i64 0, .int .i64 0, .int .i64 0, .int .i64 0] 33) := by show Blk v3 (v2.heap.size) _ _; rw [hv]; exact (Blk.new (by simp))
    have low_n : Hid (w.heap.size ≤ v2.heap.size) := by show w.heap.size ≤ v2.heap.size; have := HO.out.size; omega
    replace B_p : Hid (Blk v3 (w.heap.size) #[.int .i64 a.i, .int .i64 a.q, .int .i64 a.u, .int .i64 a.v] 36) := by show Blk v3 (w.heap.size) _ _; rw [hv]; exact (Blk.alloc B_p.out _)
    replace B_r : Hid (Blk v3 (w.heap.size + 1) #[.int .i64 0, .int .i64 0, .int .i64 0, .int .i64 0, .int .i64 0] 33) := by show Blk v3 (w.heap.size + 1) _ _; rw [hv]; exact (Blk.alloc B_r.out _)
    replace HO : Hid (Below w.heap.size w v3) := by show Below w.heap.size w v3; rw [hv]; exact (below_new HO.out _)
    clear hv
    by_cases c1 : D2 = V2
    · skip
      by_cases c2 : S1.tmod 2 = 0
      · skip
        have p_0 := B_p.out.cell (j := 0) rfl
        have p_1 := B_p.out.cell (j := 1) rfl
        have p_2 := B_p.out.cell (j := 2) rfl
        have p_3 := B_p.out.cell (j := 3) rfl
        have p_f := B_p.out.frozen
        have p_z := B_p.out.lt
        go_wp2_with fail
        refine (sroot H1 HB.out.1 HB.out.2.1 _).mono ?_
        rintro e v4 ⟨x, rfl, hx, hb⟩
        clear p_0 p_1 p_2 p_3 p_f p_z
        replace B_p : Hid (Blk v4 (w.heap.size) #[.int .i64 a.i, .int .i64 a.q, .int .i64 a.u, .int .i64 a.v] 36) := by show Blk v4 (w.heap.size) _ _; exact Blk.old B_p.out hb
        replace B_r : Hid (Blk v4 (w.heap.size + 1) #[.int .i64 0, .int .i64 0, .int .i64 0, .int .i64 0, .int .i64 0] 33) := by show Blk v4 (w.heap.size + 1) _ _; exact Blk.old B_r.out hb
        replace B_n : Hid (Blk v4 (v2.heap.size) #[.int .i64 4, .int .i64 0, .int .i64 0, .int .i64 0, .int .i64 0] 33) := by show Blk v4 (v2.heap.size) _ _; exact Blk.old B_n.out hb
        replace HO : Hid (Below w.heap.size w v4) := box_step HO.out hb (Nat.le_refl _)
        clear hb
        clear c1 c2 wI wQ wU wV wD1 wD2 e1 e1m e2 e2w
        rcases hx with ⟨x0, x1, xx⟩ | ⟨rfl, hno⟩
        · skip
          have HX : Hid (0 ≤ x ∧ x ≤ 100000 ∧ ∀ r : Int, 0 ≤ r → r ≤ 30000 → r * r = (a.i + a.q) / 2 → x = r) := ⟨x0, x1, fun r r0 _ e => sq_inj x0 r0 (by rw [xx, e]; exact HB.out.2.2.2.2.1)⟩
          clear x1 xx
          go_upto_region 11 with fail
          obtain ⟨v5, hv⟩ : ∃ Xw, Xw = (v4.alloc (.cells #[.int .i64 x, .int .i64 0, .int .i64 0, .int .i64 0] 29)) := ⟨_, rfl⟩
          rw [← hv]
          have ne_p_o : Hid (w.heap.size ≠ v4.heap.size) := Nat.ne_of_lt (Nat.lt_of_lt_of_le B_p.out.lt (by omega))
          have ne_r_o : Hid (w.heap.size + 1 ≠ v4.heap.size) := Nat.ne_of_lt (Nat.lt_of_lt_of_le B_r.out.lt (by omega))
          have ne_n_o : Hid (v2.heap.size ≠ v4.heap.size) := Nat.ne_of_lt (Nat.lt_of_lt_of_le B_n.out.lt (by omega))
          have B_o : Hid (Blk v5 (v4.heap.size) #[.int .i64 x, .int .i64 0, .int .i64 0, .int .i64 0] 29) := by show Blk v5 (v4.heap.size) _ _; rw [hv]; exact (Blk.new (by simp))
          have low_o : Hid (w.heap.size ≤ v4.heap.size) := by show w.heap.size ≤ v4.heap.size; have := HO.out.size; omega
          replace B_p : Hid (Blk v5 (w.heap.size) #[.int .i64 a.i, .int .i64 a.q, .int .i64 a.u, .int .i64 a.v] 36) := by show Blk v5 (w.heap.size) _ _; rw [hv]; exact (Blk.alloc B_p.out _)
          replace B_r : Hid (Blk v5 (w.heap.size + 1) #[.int .i64 0, .int .i64 0, .int .i64 0, .int .i64 0, .int .i64 0] 33) := by show Blk v5 (w.heap.size + 1) _ _; rw [hv]; exact (Blk.alloc B_r.out _)
          replace B_n : Hid (Blk v5 (v2.heap.size) #[.int .i64 4, .int .i64 0, .int .i64 0, .int .i64 0, .int .i64 0] 33) := by show Blk v5 (v2.heap.size) _ _; rw [hv]; exact (Blk.alloc B_n.out _)
          replace HO : Hid (Below w.heap.size w v5) := by show Below w.heap.size w v5; rw [hv]; exact (below_new HO.out _)
          clear hv
          clear x0
          by_cases hx : x = 0
          · skip
            have p_0 := B_p.out.cell (j := 0) rfl
            have p_1 := B_p.out.cell (j := 1) rfl
            have p_2 := B_p.out.cell (j := 2) rfl
            have p_3 := B_p.out.cell (j := 3) rfl
            have p_f := B_p.out.frozen
            have p_z := B_p.out.lt
            go_wp2_with fail
            refine (sroot H2 HB.out.2.2.1 HB.out.2.2.2.1 _).mono ?_
            rintro e v6 ⟨y, rfl, hy, hb⟩
            clear p_0 p_1 p_2 p_3 p_f p_z
            replace B_p : Hid (Blk v6 (w.heap.size) #[.int .i64 a.i, .int .i64 a.q, .int .i64 a.u, .int .i64 a.v] 36) := by show Blk v6 (w.heap.size) _ _; exact Blk.old B_p.out hb
            replace B_r : Hid (Blk v6 (w.heap.size + 1) #[.int .i64 0, .int .i64 0, .int .i64 0, .int .i64 0, .int .i64 0] 33) := by show Blk v6 (w.heap.size + 1) _ _; exact Blk.old B_r.out hb
            replace B_n : Hid (Blk v6 (v2.heap.size) #[.int .i64 4, .int .i64 0, .int .i64 0, .int .i64 0, .int .i64 0] 33) := by show Blk v6 (v2.heap.size) _ _; exact Blk.old B_n.out hb
            replace B_o : Hid (Blk v6 (v4.heap.size) #[.int .i64 x, .int .i64 0, .int .i64 0, .int .i64 0] 29) := by show Blk v6 (v4.heap.size) _ _; exact Blk.old B_o.out hb
            replace HO : Hid (Below w.heap.size w v6) := box_step HO.out hb (Nat.le_refl _)
            clear hb
            rcases hy with ⟨y0, y1, yy⟩ | ⟨rfl, hno⟩
            · skip
              have hyn : ¬ (y < 0) := by omega
              have o_0 := B_o.out.cell (j := 0) rfl
              have o_1 := B_o.out.cell (j := 1) rfl
              have o_2 := B_o.out.cell (j := 2) rfl
              have o_3 := B_o.out.cell (j := 3) rfl
              have o_f := B_o.out.frozen
              have o_z := B_o.out.lt
              go_upto_region 19 with fail
              clear o_0 o_1 o_2 o_3 o_f o_z
              obtain ⟨v7, hv⟩ : ∃ Xw, Xw = ((v6.setCell ⟨v4.heap.size, 2, none⟩ (.int .i64 y)).setCell ⟨v4.heap.size, 3, none⟩ (.int .i64 0)) := ⟨_, rfl⟩
              rw [← hv]
              replace B_p : Hid (Blk v7 (w.heap.size) #[.int .i64 a.i, .int .i64 a.q, .int .i64 a.u, .int .i64 a.v] 36) := by show Blk v7 (w.heap.size) _ _; rw [hv]; exact (Blk.setOther (Blk.setOther B_p.out ne_p_o.out _) ne_p_o.out _)
              replace B_r : Hid (Blk v7 (w.heap.size + 1) #[.int .i64 0, .int .i64 0, .int .i64 0, .int .i64 0, .int .i64 0] 33) := by show Blk v7 (w.heap.size + 1) _ _; rw [hv]; exact (Blk.setOther (Blk.setOther B_r.out ne_r_o.out _) ne_r_o.out _)
              replace B_n : Hid (Blk v7 (v2.heap.size) #[.int .i64 4, .int .i64 0, .int .i64 0, .int .i64 0, .int .i64 0] 33) := by show Blk v7 (v2.heap.size) _ _; rw [hv]; exact (Blk.setOther (Blk.setOther B_n.out ne_n_o.out _) ne_n_o.out _)
              replace B_o : Hid (Blk v7 (v4.heap.size) #[.int .i64 x, .int .i64 0, .int .i64 y, .int .i64 0] 29) := by show Blk v7 (v4.heap.size) _ _; rw [hv]; exact (Blk.set (Blk.set B_o.out _ _ rfl) _ _ rfl)
              replace HO : Hid (Below w.heap.size w v7) := by show Below w.heap.size w v7; rw [hv]; exact (Below.setCell (Below.setCell HO.out low_o.out _) low_o.out _)
              clear hv
              have HY : Hid (0 ≤ y ∧ ∀ r : Int, 0 ≤ r → r ≤ 30000 → r * r = (a.i - a.q) / 2 → y = r) := ⟨y0, fun r r0 _ e => sq_inj y0 r0 (by rw [yy, e]; exact HB.out.2.2.2.2.2.1)⟩
              clear y0 y1 yy hyn
              have HLk : Hid (Lik a ⟨⟨x, 0⟩, ⟨y, 0⟩⟩) := by
                have h := lik_nought hx HX.out.2.2 HY.out.1 HY.out.2
                show Lik a ⟨⟨x, 0⟩, ⟨y, 0⟩⟩
                rw [hx]
                exact h
              clear hx
              have hl : Hid (Lik a ⟨⟨x, 0⟩, ⟨y, 0⟩⟩) := HLk.out
              clear HLk e3 e4 e4w HB HD HX HY
              have o_0 := B_o.out.cell (j := 0) rfl
              have o_1 := B_o.out.cell (j := 1) rfl
              have o_2 := B_o.out.cell (j := 2) rfl
              have o_3 := B_o.out.cell (j := 3) rfl
              have o_f := B_o.out.frozen
              have o_z := B_o.out.lt
              go_wp2_with fail
              refine (sso ⟨⟨x, 0⟩, ⟨y, 0⟩⟩ _).mono ?_
              rintro e v8 ⟨rfl, hb⟩
              clear o_0 o_1 o_2 o_3 o_f o_z
              replace B_p : Hid (Blk v8 (w.heap.size) #[.int .i64 a.i, .int .i64 a.q, .int .i64 a.u, .int .i64 a.v] 36) := by show Blk v8 (w.heap.size) _ _; exact Blk.old B_p.out hb
              replace B_r : Hid (Blk v8 (w.heap.size + 1) #[.int .i64 0, .int .i64 0, .int .i64 0, .int .i64 0, .int .i64 0] 33) := by show Blk v8 (w.heap.size + 1) _ _; exact Blk.old B_r.out hb
              replace B_n : Hid (Blk v8 (v2.heap.size) #[.int .i64 4, .int .i64 0, .int .i64 0, .int .i64 0, .int .i64 0] 33) := by show Blk v8 (v2.heap.size) _ _; exact Blk.old B_n.out hb
              replace B_o : Hid (Blk v8 (v4.heap.size) #[.int .i64 x, .int .i64 0, .int .i64 y, .int .i64 0] 29) := by show Blk v8 (v4.heap.size) _ _; exact Blk.old B_o.out hb
              replace HO : Hid (Below w.heap.size w v8) := box_step HO.out hb (Nat.le_refl _)
              clear hb
              rcases jc_or (⟨x, 0⟩ : Gz) (⟨y, 0⟩ : Gz) with hj | hj
              · skip
                have hk : stk ⟨⟨x, 0⟩, ⟨y, 0⟩⟩ = sok ⟨⟨x, 0⟩, ⟨y, 0⟩⟩ := by simp [stk, hj]
                rw [hk, hj]
                obtain ⟨k, hkk⟩ : ∃ k, k = sok ⟨⟨x, 0⟩, ⟨y, 0⟩⟩ := ⟨_, rfl⟩
                rw [← hkk]
                replace hkk : Hid (k = sok ⟨⟨x, 0⟩, ⟨y, 0⟩⟩) := hkk
                replace hj : Hid (jcode (⟨x, 0⟩ : Gz) (⟨y, 0⟩ : Gz) = 0) := hj
                clear hk
                go_upto_region 20 with fail
                obtain ⟨v9, hv⟩ : ∃ Xw, Xw = (v8.alloc (.cells #[.int .i64 0, .int .i64 k.i, .int .i64 k.q, .int .i64 k.u, .int .i64 k.v] 38)) := ⟨_, rfl⟩
                rw [← hv]
                have ne_p_t : Hid (w.heap.size ≠ v8.heap.size) := Nat.ne_of_lt (Nat.lt_of_lt_of_le B_p.out.lt (by omega))
                have ne_r_t : Hid (w.heap.size + 1 ≠ v8.heap.size) := Nat.ne_of_lt (Nat.lt_of_lt_of_le B_r.out.lt (by omega))
                have ne_n_t : Hid (v2.heap.size ≠ v8.heap.size) := Nat.ne_of_lt (Nat.lt_of_lt_of_le B_n.out.lt (by omega))
                have ne_o_t : Hid (v4.heap.size ≠ v8.heap.size) := Nat.ne_of_lt (Nat.lt_of_lt_of_le B_o.out.lt (by omega))
                have B_t : Hid (Blk v9 (v8.heap.size) #[.int .i64 0, .int .i64 k.i, .int .i64 k.q, .int .i64 k.u, .int .i64 k.v] 38) := by show Blk v9 (v8.heap.size) _ _; rw [hv]; exact (Blk.new (by simp))
                have low_t : Hid (w.heap.size ≤ v8.heap.size) := by show w.heap.size ≤ v8.heap.size; have := HO.out.size; omega
                replace B_p : Hid (Blk v9 (w.heap.size) #[.int .i64 a.i, .int .i64 a.q, .int .i64 a.u, .int .i64 a.v] 36) := by show Blk v9 (w.heap.size) _ _; rw [hv]; exact (Blk.alloc B_p.out _)
                replace B_r : Hid (Blk v9 (w.heap.size + 1) #[.int .i64 0, .int .i64 0, .int .i64 0, .int .i64 0, .int .i64 0] 33) := by show Blk v9 (w.heap.size + 1) _ _; rw [hv]; exact (Blk.alloc B_r.out _)
                replace B_n : Hid (Blk v9 (v2.heap.size) #[.int .i64 4, .int .i64 0, .int .i64 0, .int .i64 0, .int .i64 0] 33) := by show Blk v9 (v2.heap.size) _ _; rw [hv]; exact (Blk.alloc B_n.out _)
                replace B_o : Hid (Blk v9 (v4.heap.size) #[.int .i64 x, .int .i64 0, .int .i64 y, .int .i64 0] 29) := by show Blk v9 (v4.heap.size) _ _; rw [hv]; exact (Blk.alloc B_o.out _)
                replace HO : Hid (Below w.heap.size w v9) := by show Below w.heap.size w v9; rw [hv]; exact (below_new HO.out _)
                clear hv
                by_cases hq : k = a
                · skip
                  subst hq
                  have hJ : Hid (JAns k 0 ⟨⟨x, 0⟩, ⟨y, 0⟩⟩) := jans_ok hs.out hl.out hj.out hkk.out.symm
                  clear hj hkk hl
                  have p_0 := B_p.out.cell (j := 0) rfl
                  have p_1 := B_p.out.cell (j := 1) rfl
                  have p_2 := B_p.out.cell (j := 2) rfl
                  have p_3 := B_p.out.cell (j := 3) rfl
                  have p_f := B_p.out.frozen
                  have p_z := B_p.out.lt
                  have t_0 := B_t.out.cell (j := 0) rfl
                  have t_1 := B_t.out.cell (j := 1) rfl
                  have t_2 := B_t.out.cell (j := 2) rfl
                  have t_3 := B_t.out.cell (j := 3) rfl
                  have t_4 := B_t.out.cell (j := 4) rfl
                  have t_f := B_t.out.frozen
                  have t_z := B_t.out.lt
                  have o_0 := B_o.out.cell (j := 0) rfl
                  have o_1 := B_o.out.cell (j := 1) rfl
                  have o_2 := B_o.out.cell (j := 2) rfl
                  have o_3 := B_o.out.cell (j := 3) rfl
                  have o_f := B_o.out.frozen
                  have o_z := B_o.out.lt
                  have r_0 := B_r.out.cell (j := 0) rfl
                  have r_1 := B_r.out.cell (j := 1) rfl
                  have r_2 := B_r.out.cell (j := 2) rfl
                  have r_3 := B_r.out.cell (j := 3) rfl
                  have r_4 := B_r.out.cell (j := 4) rfl
                  have r_f := B_r.out.frozen
                  have r_z := B_r.out.lt
                  go_wp2
                  refine bodyPost_ret (v := .agg #[.int .i64 0, .int .i64 x, .int .i64 0, .int .i64 y, .int .i64 0]) (by simp [results, Try.results25, go_sem, r_0, r_1, r_2, r_3, r_4, r_f, r_z] <;> (repeat' (first | rfl | apply And.intro))) rfl ⟨0, ⟨⟨x, 0⟩, ⟨y, 0⟩⟩, rfl, hJ.out, ?_⟩
                  exact (Below.setCell (Below.setCell (Below.setCell (Below.setCell (Below.setCell HO.out low_r.out _) low_r.out _) low_r.out _) low_r.out _) low_r.out _)
                · skip
                  have hJ : Hid (JAns a 4 ⟨⟨0, 0⟩, ⟨0, 0⟩⟩) := jans_bad hs.out hl.out (Or.inr (by rw [← hkk.out]; exact hq))
                  clear hj hkk hl
                  have hne : k.i ≠ a.i ∨ (k.i = a.i ∧ k.q ≠ a.q) ∨ (k.i = a.i ∧ k.q = a.q ∧ k.u ≠ a.u) ∨ (k.i = a.i ∧ k.q = a.q ∧ k.u = a.u ∧ k.v ≠ a.v) := by
                    by_cases h1 : k.i = a.i
                    · by_cases h2 : k.q = a.q
                      · by_cases h3 : k.u = a.u
                        · by_cases h4 : k.v = a.v
                          · exact absurd (by cases k; cases a; simp_all) hq
                          · exact Or.inr (Or.inr (Or.inr ⟨h1, h2, h3, h4⟩))
                        · exact Or.inr (Or.inr (Or.inl ⟨h1, h2, h3⟩))
                      · exact Or.inr (Or.inl ⟨h1, h2⟩)
                    · exact Or.inl h1
                  clear hq
                  obtain ⟨k1, k2, k3, k4⟩ := k
                  simp only at hne B_t
                  rcases hne with h1 | ⟨rfl, h1⟩ | ⟨rfl, rfl, h1⟩ | ⟨rfl, rfl, rfl, h1⟩
                  · skip
                    have hb1 : (k1 == a.i) = false := by simpa using h1
                    have hb2 : (k1 != a.i) = true := by simpa using h1
                    have p_0 := B_p.out.cell (j := 0) rfl
                    have p_1 := B_p.out.cell (j := 1) rfl
                    have p_2 := B_p.out.cell (j := 2) rfl
                    have p_3 := B_p.out.cell (j := 3) rfl
                    have p_f := B_p.out.frozen
                    have p_z := B_p.out.lt
                    have t_0 := B_t.out.cell (j := 0) rfl
                    have t_1 := B_t.out.cell (j := 1) rfl
                    have t_2 := B_t.out.cell (j := 2) rfl
                    have t_3 := B_t.out.cell (j := 3) rfl
                    have t_4 := B_t.out.cell (j := 4) rfl
                    have t_f := B_t.out.frozen
                    have t_z := B_t.out.lt
                    have n_0 := B_n.out.cell (j := 0) rfl
                    have n_1 := B_n.out.cell (j := 1) rfl
                    have n_2 := B_n.out.cell (j := 2) rfl
                    have n_3 := B_n.out.cell (j := 3) rfl
                    have n_4 := B_n.out.cell (j := 4) rfl
                    have n_f := B_n.out.frozen
                    have n_z := B_n.out.lt
                    have r_0 := B_r.out.cell (j := 0) rfl
                    have r_1 := B_r.out.cell (j := 1) rfl
                    have r_2 := B_r.out.cell (j := 2) rfl
                    have r_3 := B_r.out.cell (j := 3) rfl
                    have r_4 := B_r.out.cell (j := 4) rfl
                    have r_f := B_r.out.frozen
                    have r_z := B_r.out.lt
                    go_wp2
                    refine bodyPost_ret (v := .agg #[.int .i64 4, .int .i64 0, .int .i64 0, .int .i64 0, .int .i64 0]) (by simp [results, Try.results25, go_sem, r_0, r_1, r_2, r_3, r_4, r_f, r_z] <;> (repeat' (first | rfl | apply And.intro))) rfl ⟨4, ⟨⟨0, 0⟩, ⟨0, 0⟩⟩, rfl, hJ.out, ?_⟩
                    exact (Below.setCell (Below.setCell (Below.setCell (Below.setCell (Below.setCell HO.out low_r.out _) low_r.out _) low_r.out _) low_r.out _) low_r.out _)
                  · skip
                    have hb1 : (k2 == a.q) = false := by simpa using h1
                    have hb2 : (k2 != a.q) = true := by simpa using h1
                    have p_0 := B_p.out.cell (j := 0) rfl
                    have p_1 := B_p.out.cell (j := 1) rfl
                    have p_2 := B_p.out.cell (j := 2) rfl
                    have p_3 := B_p.out.cell (j := 3) rfl
                    have p_f := B_p.out.frozen
                    have p_z := B_p.out.lt
                    have t_0 := B_t.out.cell (j := 0) rfl
                    have t_1 := B_t.out.cell (j := 1) rfl
                    have t_2 := B_t.out.cell (j := 2) rfl
                    have t_3 := B_t.out.cell (j := 3) rfl
                    have t_4 := B_t.out.cell (j := 4) rfl
                    have t_f := B_t.out.frozen
                    have t_z := B_t.out.lt
                    have n_0 := B_n.out.cell (j := 0) rfl
                    have n_1 := B_n.out.cell (j := 1) rfl
                    have n_2 := B_n.out.cell (j := 2) rfl
                    have n_3 := B_n.out.cell (j := 3) rfl
                    have n_4 := B_n.out.cell (j := 4) rfl
                    have n_f := B_n.out.frozen
                    have n_z := B_n.out.lt
                    have r_0 := B_r.out.cell (j := 0) rfl
                    have r_1 := B_r.out.cell (j := 1) rfl
                    have r_2 := B_r.out.cell (j := 2) rfl
                    have r_3 := B_r.out.cell (j := 3) rfl
                    have r_4 := B_r.out.cell (j := 4) rfl
                    have r_f := B_r.out.frozen
                    have r_z := B_r.out.lt
                    go_wp2
                    refine bodyPost_ret (v := .agg #[.int .i64 4, .int .i64 0, .int .i64 0, .int .i64 0, .int .i64 0]) (by simp [results, Try.results25, go_sem, r_0, r_1, r_2, r_3, r_4, r_f, r_z] <;> (repeat' (first | rfl | apply And.intro))) rfl ⟨4, ⟨⟨0, 0⟩, ⟨0, 0⟩⟩, rfl, hJ.out, ?_⟩
                    exact (Below.setCell (Below.setCell (Below.setCell (Below.setCell (Below.setCell HO.out low_r.out _) low_r.out _) low_r.out _) low_r.out _) low_r.out _)
                  · skip
                    have hb1 : (k3 == a.u) = false := by simpa using h1
                    have hb2 : (k3 != a.u) = true := by simpa using h1
                    have p_0 := B_p.out.cell (j := 0) rfl
                    have p_1 := B_p.out.cell (j := 1) rfl
                    have p_2 := B_p.out.cell (j := 2) rfl
                    have p_3 := B_p.out.cell (j := 3) rfl
                    have p_f := B_p.out.frozen
                    have p_z := B_p.out.lt
                    have t_0 := B_t.out.cell (j := 0) rfl
                    have t_1 := B_t.out.cell (j := 1) rfl
                    have t_2 := B_t.out.cell (j := 2) rfl
                    have t_3 := B_t.out.cell (j := 3) rfl
                    have t_4 := B_t.out.cell (j := 4) rfl
                    have t_f := B_t.out.frozen
                    have t_z := B_t.out.lt
                    have n_0 := B_n.out.cell (j := 0) rfl
                    have n_1 := B_n.out.cell (j := 1) rfl
                    have n_2 := B_n.out.cell (j := 2) rfl
                    have n_3 := B_n.out.cell (j := 3) rfl
                    have n_4 := B_n.out.cell (j := 4) rfl
                    have n_f := B_n.out.frozen
                    have n_z := B_n.out.lt
                    have r_0 := B_r.out.cell (j := 0) rfl
                    have r_1 := B_r.out.cell (j := 1) rfl
                    have r_2 := B_r.out.cell (j := 2) rfl
                    have r_3 := B_r.out.cell (j := 3) rfl
                    have r_4 := B_r.out.cell (j := 4) rfl
                    have r_f := B_r.out.frozen
                    have r_z := B_r.out.lt
                    go_wp2
                    refine bodyPost_ret (v := .agg #[.int .i64 4, .int .i64 0, .int .i64 0, .int .i64 0, .int .i64 0]) (by simp [results, Try.results25, go_sem, r_0, r_1, r_2, r_3, r_4, r_f, r_z] <;> (repeat' (first | rfl | apply And.intro))) rfl ⟨4, ⟨⟨0, 0⟩, ⟨0, 0⟩⟩, rfl, hJ.out, ?_⟩
                    exact (Below.setCell (Below.setCell (Below.setCell (Below.setCell (Below.setCell HO.out low_r.out _) low_r.out _) low_r.out _) low_r.out _) low_r.out _)
                  · skip
                    have hb1 : (k4 == a.v) = false := by simpa using h1
                    have hb2 : (k4 != a.v) = true := by simpa using h1
                    have p_0 := B_p.out.cell (j := 0) rfl
                    have p_1 := B_p.out.cell (j := 1) rfl
                    have p_2 := B_p.out.cell (j := 2) rfl
                    have p_3 := B_p.out.cell (j := 3) rfl
                    have p_f := B_p.out.frozen
                    have p_z := B_p.out.lt
                    have t_0 := B_t.out.cell (j := 0) rfl
                    have t_1 := B_t.out.cell (j := 1) rfl
                    have t_2 := B_t.out.cell (j := 2) rfl
                    have t_3 := B_t.out.cell (j := 3) rfl
                    have t_4 := B_t.out.cell (j := 4) rfl
                    have t_f := B_t.out.frozen
                    have t_z := B_t.out.lt
                    have n_0 := B_n.out.cell (j := 0) rfl
                    have n_1 := B_n.out.cell (j := 1) rfl
                    have n_2 := B_n.out.cell (j := 2) rfl
                    have n_3 := B_n.out.cell (j := 3) rfl
                    have n_4 := B_n.out.cell (j := 4) rfl
                    have n_f := B_n.out.frozen
                    have n_z := B_n.out.lt
                    have r_0 := B_r.out.cell (j := 0) rfl
                    have r_1 := B_r.out.cell (j := 1) rfl
                    have r_2 := B_r.out.cell (j := 2) rfl
                    have r_3 := B_r.out.cell (j := 3) rfl
                    have r_4 := B_r.out.cell (j := 4) rfl
                    have r_f := B_r.out.frozen
                    have r_z := B_r.out.lt
                    go_wp2
                    refine bodyPost_ret (v := .agg #[.int .i64 4, .int .i64 0, .int .i64 0, .int .i64 0, .int .i64 0]) (by simp [results, Try.results25, go_sem, r_0, r_1, r_2, r_3, r_4, r_f, r_z] <;> (repeat' (first | rfl | apply And.intro))) rfl ⟨4, ⟨⟨0, 0⟩, ⟨0, 0⟩⟩, rfl, hJ.out, ?_⟩
                    exact (Below.setCell (Below.setCell (Below.setCell (Below.setCell (Below.setCell HO.out low_r.out _) low_r.out _) low_r.out _) low_r.out _) low_r.out _)
              · skip
                have hk : stk ⟨⟨x, 0⟩, ⟨y, 0⟩⟩ = ⟨0, 0, 0, 0⟩ := by simp [stk, hj]
                rw [hk, hj]
                have hJ : Hid (JAns a 4 ⟨⟨0, 0⟩, ⟨0, 0⟩⟩) := jans_bad hs.out hl.out (Or.inl (by rw [hj]; decide))
                clear hk hj
                go_upto_region 20 with fail
                obtain ⟨v9, hv⟩ : ∃ Xw, Xw = (v8.alloc (.cells #[.int .i64 3, .int .i64 0, .int .i64 0, .int .i64 0, .int .i64 0] 38)) := ⟨_, rfl⟩
                rw [← hv]
                have ne_p_t : Hid (w.heap.size ≠ v8.heap.size) := Nat.ne_of_lt (Nat.lt_of_lt_of_le B_p.out.lt (by omega))
                have ne_r_t : Hid (w.heap.size + 1 ≠ v8.heap.size) := Nat.ne_of_lt (Nat.lt_of_lt_of_le B_r.out.lt (by omega))
                have ne_n_t : Hid (v2.heap.size ≠ v8.heap.size) := Nat.ne_of_lt (Nat.lt_of_lt_of_le B_n.out.lt (by omega))
                have ne_o_t : Hid (v4.heap.size ≠ v8.heap.size) := Nat.ne_of_lt (Nat.lt_of_lt_of_le B_o.out.lt (by omega))
                have B_t : Hid (Blk v9 (v8.heap.size) #[.int .i64 3, .int .i64 0, .int .i64 0, .int .i64 0, .int .i64 0] 38) := by show Blk v9 (v8.heap.size) _ _; rw [hv]; exact (Blk.new (by simp))
                have low_t : Hid (w.heap.size ≤ v8.heap.size) := by show w.heap.size ≤ v8.heap.size; have := HO.out.size; omega
                replace B_p : Hid (Blk v9 (w.heap.size) #[.int .i64 a.i, .int .i64 a.q, .int .i64 a.u, .int .i64 a.v] 36) := by show Blk v9 (w.heap.size) _ _; rw [hv]; exact (Blk.alloc B_p.out _)
                replace B_r : Hid (Blk v9 (w.heap.size + 1) #[.int .i64 0, .int .i64 0, .int .i64 0, .int .i64 0, .int .i64 0] 33) := by show Blk v9 (w.heap.size + 1) _ _; rw [hv]; exact (Blk.alloc B_r.out _)
                replace B_n : Hid (Blk v9 (v2.heap.size) #[.int .i64 4, .int .i64 0, .int .i64 0, .int .i64 0, .int .i64 0] 33) := by show Blk v9 (v2.heap.size) _ _; rw [hv]; exact (Blk.alloc B_n.out _)
                replace B_o : Hid (Blk v9 (v4.heap.size) #[.int .i64 x, .int .i64 0, .int .i64 y, .int .i64 0] 29) := by show Blk v9 (v4.heap.size) _ _; rw [hv]; exact (Blk.alloc B_o.out _)
                replace HO : Hid (Below w.heap.size w v9) := by show Below w.heap.size w v9; rw [hv]; exact (below_new HO.out _)
                clear hv
                have t_0 := B_t.out.cell (j := 0) rfl
                have t_1 := B_t.out.cell (j := 1) rfl
                have t_2 := B_t.out.cell (j := 2) rfl
                have t_3 := B_t.out.cell (j := 3) rfl
                have t_4 := B_t.out.cell (j := 4) rfl
                have t_f := B_t.out.frozen
                have t_z := B_t.out.lt
                have n_0 := B_n.out.cell (j := 0) rfl
                have n_1 := B_n.out.cell (j := 1) rfl
                have n_2 := B_n.out.cell (j := 2) rfl
                have n_3 := B_n.out.cell (j := 3) rfl
                have n_4 := B_n.out.cell (j := 4) rfl
                have n_f := B_n.out.frozen
                have n_z := B_n.out.lt
                have r_0 := B_r.out.cell (j := 0) rfl
                have r_1 := B_r.out.cell (j := 1) rfl
                have r_2 := B_r.out.cell (j := 2) rfl
                have r_3 := B_r.out.cell (j := 3) rfl
                have r_4 := B_r.out.cell (j := 4) rfl
                have r_f := B_r.out.frozen
                have r_z := B_r.out.lt
                go_wp2
                refine bodyPost_ret (v := .agg #[.int .i64 4, .int .i64 0, .int .i64 0, .int .i64 0, .int .i64 0]) (by simp [results, Try.results25, go_sem, r_0, r_1, r_2, r_3, r_4, r_f, r_z] <;> (repeat' (first | rfl | apply And.intro))) rfl ⟨4, ⟨⟨0, 0⟩, ⟨0, 0⟩⟩, rfl, hJ.out, ?_⟩
                exact (Below.setCell (Below.setCell (Below.setCell (Below.setCell (Below.setCell HO.out low_r.out _) low_r.out _) low_r.out _) low_r.out _) low_r.out _)
            · skip
              replace hno : Hid _ := hno
              have hJ : Hid (JAns a 4 ⟨⟨0, 0⟩, ⟨0, 0⟩⟩) := jans_none hs.out fun m hm => (by
                obtain ⟨q1, q2, q3, q4, q5, q6, q7⟩ := hm.eqs
                have ex : m.x.re = 0 := by have := HX.out.2.2 m.x.re hm.xr q5 (by omega); omega
                obtain ⟨p1, p2⟩ := hm.yn ex
                exact hno.out m.y.re p2 (by rw [p1] at q2; simp at q2; have := HB.out.2.2.2.2.2.1; omega))
              have n_0 := B_n.out.cell (j := 0) rfl
              have n_1 := B_n.out.cell (j := 1) rfl
              have n_2 := B_n.out.cell (j := 2) rfl
              have n_3 := B_n.out.cell (j := 3) rfl
              have n_4 := B_n.out.cell (j := 4) rfl
              have n_f := B_n.out.frozen
              have n_z := B_n.out.lt
              have r_0 := B_r.out.cell (j := 0) rfl
              have r_1 := B_r.out.cell (j := 1) rfl
              have r_2 := B_r.out.cell (j := 2) rfl
              have r_3 := B_r.out.cell (j := 3) rfl
              have r_4 := B_r.out.cell (j := 4) rfl
              have r_f := B_r.out.frozen
              have r_z := B_r.out.lt
              go_wp2
              refine bodyPost_ret (v := .agg #[.int .i64 4, .int .i64 0, .int .i64 0, .int .i64 0, .int .i64 0]) (by simp [results, Try.results25, go_sem, n_0, n_1, n_2, n_3, n_4, n_f, n_z, r_0, r_1, r_2, r_3, r_4, r_f, r_z] <;> (repeat' (first | rfl | apply And.intro))) rfl ⟨4, ⟨⟨0, 0⟩, ⟨0, 0⟩⟩, rfl, hJ.out, ?_⟩
              exact (Below.setCell (Below.setCell (Below.setCell (Below.setCell (Below.setCell HO.out low_r.out _) low_r.out _) low_r.out _) low_r.out _) low_r.out _)
          · skip
            obtain ⟨d, hd⟩ : ∃ d, d = 2 * x := ⟨_, rfl⟩
            have hx0 : 0 < x := by have := HX.out.1; omega
            have d1 : wrap64 (2 * x) = d := by rw [hd]; exact w64 (by have := HX.out; omega) (by have := HX.out; omega)
            have dn : ¬ (d = 0) := by omega
            have dp : Hid (0 < d) := by show 0 < d; omega
            have mu := tmod_bound a.u dp.out (by have := HX.out.2.1; omega)
            have mv := tmod_bound a.v dp.out (by have := HX.out.2.1; omega)
            have HU : Hid ((∃ m, Fnd a m) → a.u.tmod d = 0 ∧ a.v.tmod d = 0) := by
              rintro ⟨m, hm⟩
              obtain ⟨q1, q2, q3, q4, q5, q6, q7⟩ := hm.eqs
              have ex : x = m.x.re := HX.out.2.2 m.x.re hm.xr q5 (by omega)
              rw [q3, q4, ← ex, ← hd]
              exact ⟨Int.mul_tmod_right _ _, by rw [Int.neg_tmod, Int.mul_tmod_right]; rfl⟩
            replace hd : Hid (d = 2 * x) := hd
            have hxb : (x == 0) = false := by simpa using hx
            obtain ⟨MU, hMU⟩ : ∃ M, M = a.u.tmod d := ⟨_, rfl⟩
            obtain ⟨MV, hMV⟩ : ∃ M, M = a.v.tmod d := ⟨_, rfl⟩
            rw [← hMU] at mu HU
            rw [← hMV] at mv HU
            have mu2 : a.u.tmod d = MU := hMU.symm
            have mv2 : a.v.tmod d = MV := hMV.symm
            clear hMU hMV
            by_cases t1 : MU = 0
            · skip
              by_cases t2 : MV = 0
              · skip
                obtain ⟨P, hP⟩ : ∃ P, P = a.u.tdiv d := ⟨_, rfl⟩
                have q1 : wrap64 (a.u.tdiv d) = P := by rw [hP]; exact quo_wrap HB.out.2.2.2.2.2.2.1.1 HB.out.2.2.2.2.2.2.1.2 dp.out
                obtain ⟨N, hN⟩ : ∃ N, N = -a.v := ⟨_, rfl⟩
                have q2 : wrap64 (-a.v) = N := by rw [hN]; have := HB.out.2.2.2.2.2.2.2; exact w64 (by omega) (by omega)
                obtain ⟨R, hR⟩ : ∃ R, R = N.tdiv d := ⟨_, rfl⟩
                have q3 : wrap64 (N.tdiv d) = R := by rw [hR]; exact quo_wrap (by rw [hN]; have := HB.out.2.2.2.2.2.2.2; omega) (by rw [hN]; have := HB.out.2.2.2.2.2.2.2; omega) dp.out
                have d1i : IntKind.i64.wrap (2 * x) = _ := (wi64 _).trans d1
                have q1i : IntKind.i64.wrap (a.u.tdiv d) = _ := (wi64 _).trans q1
                have q2i : IntKind.i64.wrap (-a.v) = _ := (wi64 _).trans q2
                have q3i : IntKind.i64.wrap (N.tdiv d) = _ := (wi64 _).trans q3
                have HL : Hid (Lik a ⟨⟨x, 0⟩, ⟨P, R⟩⟩) := lik_some hx0 HX.out.2.2 (by rw [hP, hd.out]) (by rw [hR, hN, hd.out])
                clear hd hP hN hR hx0
                have p_0 := B_p.out.cell (j := 0) rfl
                have p_1 := B_p.out.cell (j := 1) rfl
                have p_2 := B_p.out.cell (j := 2) rfl
                have p_3 := B_p.out.cell (j := 3) rfl
                have p_f := B_p.out.frozen
                have p_z := B_p.out.lt
                go_upto_region 18 with fail
                clear p_0 p_1 p_2 p_3 p_f p_z
                have k_p_0 : ∀ x : Kept v5.heap.size v5, x.w.cell? ⟨w.heap.size, 0, none⟩ = some (.int .i64 a.i) := fun x => x.cell B_p.out.lt (B_p.out.cell (j := 0) rfl)
                have k_p_1 : ∀ x : Kept v5.heap.size v5, x.w.cell? ⟨w.heap.size, 1, none⟩ = some (.int .i64 a.q) := fun x => x.cell B_p.out.lt (B_p.out.cell (j := 1) rfl)
                have k_p_2 : ∀ x : Kept v5.heap.size v5, x.w.cell? ⟨w.heap.size, 2, none⟩ = some (.int .i64 a.u) := fun x => x.cell B_p.out.lt (B_p.out.cell (j := 2) rfl)
                have k_p_3 : ∀ x : Kept v5.heap.size v5, x.w.cell? ⟨w.heap.size, 3, none⟩ = some (.int .i64 a.v) := fun x => x.cell B_p.out.lt (B_p.out.cell (j := 3) rfl)
                refine wp_region_last' v5.heap.size (by kernel_rfl) rfl rfl (by kernel_rfl) (lastOk_of (by kernel_rfl)) ?_
                intro hne
                dsimp only [List.dropLast]
                repeat (go_big_quiet_step (fail))
                refine wpQuiet_nil ?_
                rintro u6 ⟨xk, hxk⟩
                have hR1 := xk.h
                rw [← hxk] at hR1
                clear hxk xk hne k_p_0 k_p_1 k_p_2 k_p_3
                replace B_p : Hid (Blk u6 (w.heap.size) #[.int .i64 a.i, .int .i64 a.q, .int .i64 a.u, .int .i64 a.v] 36) := by show Blk u6 (w.heap.size) _ _; exact Blk.old B_p.out hR1
                replace B_r : Hid (Blk u6 (w.heap.size + 1) #[.int .i64 0, .int .i64 0, .int .i64 0, .int .i64 0, .int .i64 0] 33) := by show Blk u6 (w.heap.size + 1) _ _; exact Blk.old B_r.out hR1
                replace B_n : Hid (Blk u6 (v2.heap.size) #[.int .i64 4, .int .i64 0, .int .i64 0, .int .i64 0, .int .i64 0] 33) := by show Blk u6 (v2.heap.size) _ _; exact Blk.old B_n.out hR1
                replace B_o : Hid (Blk u6 (v4.heap.size) #[.int .i64 x, .int .i64 0, .int .i64 0, .int .i64 0] 29) := by show Blk u6 (v4.heap.size) _ _; exact Blk.old B_o.out hR1
                replace HO : Hid (Below w.heap.size w u6) := HO.out.trans (hR1.mono HO.out.size)
                clear hR1
                have o_0 := B_o.out.cell (j := 0) rfl
                have o_1 := B_o.out.cell (j := 1) rfl
                have o_2 := B_o.out.cell (j := 2) rfl
                have o_3 := B_o.out.cell (j := 3) rfl
                have o_f := B_o.out.frozen
                have o_z := B_o.out.lt
                go_upto_region 19 with fail
                clear o_0 o_1 o_2 o_3 o_f o_z
                obtain ⟨v7, hv⟩ : ∃ Xw, Xw = ((u6.setCell ⟨v4.heap.size, 2, none⟩ (.int .i64 P)).setCell ⟨v4.heap.size, 3, none⟩ (.int .i64 R)) := ⟨_, rfl⟩
                rw [← hv]
                replace B_p : Hid (Blk v7 (w.heap.size) #[.int .i64 a.i, .int .i64 a.q, .int .i64 a.u, .int .i64 a.v] 36) := by show Blk v7 (w.heap.size) _ _; rw [hv]; exact (Blk.setOther (Blk.setOther B_p.out ne_p_o.out _) ne_p_o.out _)
                replace B_r : Hid (Blk v7 (w.heap.size + 1) #[.int .i64 0, .int .i64 0, .int .i64 0, .int .i64 0, .int .i64 0] 33) := by show Blk v7 (w.heap.size + 1) _ _; rw [hv]; exact (Blk.setOther (Blk.setOther B_r.out ne_r_o.out _) ne_r_o.out _)
                replace B_n : Hid (Blk v7 (v2.heap.size) #[.int .i64 4, .int .i64 0, .int .i64 0, .int .i64 0, .int .i64 0] 33) := by show Blk v7 (v2.heap.size) _ _; rw [hv]; exact (Blk.setOther (Blk.setOther B_n.out ne_n_o.out _) ne_n_o.out _)
                replace B_o : Hid (Blk v7 (v4.heap.size) #[.int .i64 x, .int .i64 0, .int .i64 P, .int .i64 R] 29) := by show Blk v7 (v4.heap.size) _ _; rw [hv]; exact (Blk.set (Blk.set B_o.out _ _ rfl) _ _ rfl)
                replace HO : Hid (Below w.heap.size w v7) := by show Below w.heap.size w v7; rw [hv]; exact (Below.setCell (Below.setCell HO.out low_o.out _) low_o.out _)
                clear hv
                have hl : Hid (Lik a ⟨⟨x, 0⟩, ⟨P, R⟩⟩) := HL.out
                clear HL d1 dn dp mu mv mu2 mv2 q1 q2 q3 d1i q1i q2i q3i t1 t2 e3 e4 e4w hxb hx HB HD HX HU
                have o_0 := B_o.out.cell (j := 0) rfl
                have o_1 := B_o.out.cell (j := 1) rfl
                have o_2 := B_o.out.cell (j := 2) rfl
                have o_3 := B_o.out.cell (j := 3) rfl
                have o_f := B_o.out.frozen
                have o_z := B_o.out.lt
                go_wp2_with fail
                refine (sso ⟨⟨x, 0⟩, ⟨P, R⟩⟩ _).mono ?_
                rintro e v8 ⟨rfl, hb⟩
                clear o_0 o_1 o_2 o_3 o_f o_z
                replace B_p : Hid (Blk v8 (w.heap.size) #[.int .i64 a.i, .int .i64 a.q, .int .i64 a.u, .int .i64 a.v] 36) := by show Blk v8 (w.heap.size) _ _; exact Blk.old B_p.out hb
                replace B_r : Hid (Blk v8 (w.heap.size + 1) #[.int .i64 0, .int .i64 0, .int .i64 0, .int .i64 0, .int .i64 0] 33) := by show Blk v8 (w.heap.size + 1) _ _; exact Blk.old B_r.out hb
                replace B_n : Hid (Blk v8 (v2.heap.size) #[.int .i64 4, .int .i64 0, .int .i64 0, .int .i64 0, .int .i64 0] 33) := by show Blk v8 (v2.heap.size) _ _; exact Blk.old B_n.out hb
                replace B_o : Hid (Blk v8 (v4.heap.size) #[.int .i64 x, .int .i64 0, .int .i64 P, .int .i64 R] 29) := by show Blk v8 (v4.heap.size) _ _; exact Blk.old B_o.out hb
                replace HO : Hid (Below w.heap.size w v8) := box_step HO.out hb (Nat.le_refl _)
                clear hb
                rcases jc_or (⟨x, 0⟩ : Gz) (⟨P, R⟩ : Gz) with hj | hj
                · skip
                  have hk : stk ⟨⟨x, 0⟩, ⟨P, R⟩⟩ = sok ⟨⟨x, 0⟩, ⟨P, R⟩⟩ := by simp [stk, hj]
                  rw [hk, hj]
                  obtain ⟨k, hkk⟩ : ∃ k, k = sok ⟨⟨x, 0⟩, ⟨P, R⟩⟩ := ⟨_, rfl⟩
                  rw [← hkk]
                  replace hkk : Hid (k = sok ⟨⟨x, 0⟩, ⟨P, R⟩⟩) := hkk
                  replace hj : Hid (jcode (⟨x, 0⟩ : Gz) (⟨P, R⟩ : Gz) = 0) := hj
                  clear hk
                  go_upto_region 20 with fail
                  obtain ⟨v9, hv⟩ : ∃ Xw, Xw = (v8.alloc (.cells #[.int .i64 0, .int .i64 k.i, .int .i64 k.q, .int .i64 k.u, .int .i64 k.v] 38)) := ⟨_, rfl⟩
                  rw [← hv]
                  have ne_p_t : Hid (w.heap.size ≠ v8.heap.size) := Nat.ne_of_lt (Nat.lt_of_lt_of_le B_p.out.lt (by omega))
                  have ne_r_t : Hid (w.heap.size + 1 ≠ v8.heap.size) := Nat.ne_of_lt (Nat.lt_of_lt_of_le B_r.out.lt (by omega))
                  have ne_n_t : Hid (v2.heap.size ≠ v8.heap.size) := Nat.ne_of_lt (Nat.lt_of_lt_of_le B_n.out.lt (by omega))
                  have ne_o_t : Hid (v4.heap.size ≠ v8.heap.size) := Nat.ne_of_lt (Nat.lt_of_lt_of_le B_o.out.lt (by omega))
                  have B_t : Hid (Blk v9 (v8.heap.size) #[.int .i64 0, .int .i64 k.i, .int .i64 k.q, .int .i64 k.u, .int .i64 k.v] 38) := by show Blk v9 (v8.heap.size) _ _; rw [hv]; exact (Blk.new (by simp))
                  have low_t : Hid (w.heap.size ≤ v8.heap.size) := by show w.heap.size ≤ v8.heap.size; have := HO.out.size; omega
                  replace B_p : Hid (Blk v9 (w.heap.size) #[.int .i64 a.i, .int .i64 a.q, .int .i64 a.u, .int .i64 a.v] 36) := by show Blk v9 (w.heap.size) _ _; rw [hv]; exact (Blk.alloc B_p.out _)
                  replace B_r : Hid (Blk v9 (w.heap.size + 1) #[.int .i64 0, .int .i64 0, .int .i64 0, .int .i64 0, .int .i64 0] 33) := by show Blk v9 (w.heap.size + 1) _ _; rw [hv]; exact (Blk.alloc B_r.out _)
                  replace B_n : Hid (Blk v9 (v2.heap.size) #[.int .i64 4, .int .i64 0, .int .i64 0, .int .i64 0, .int .i64 0] 33) := by show Blk v9 (v2.heap.size) _ _; rw [hv]; exact (Blk.alloc B_n.out _)
                  replace B_o : Hid (Blk v9 (v4.heap.size) #[.int .i64 x, .int .i64 0, .int .i64 P, .int .i64 R] 29) := by show Blk v9 (v4.heap.size) _ _; rw [hv]; exact (Blk.alloc B_o.out _)
                  replace HO : Hid (Below w.heap.size w v9) := by show Below w.heap.size w v9; rw [hv]; exact (below_new HO.out _)
                  clear hv
                  by_cases hq : k = a
                  · skip
                    subst hq
                    have hJ : Hid (JAns k 0 ⟨⟨x, 0⟩, ⟨P, R⟩⟩) := jans_ok hs.out hl.out hj.out hkk.out.symm
                    clear hj hkk hl
                    have p_0 := B_p.out.cell (j := 0) rfl
                    have p_1 := B_p.out.cell (j := 1) rfl
                    have p_2 := B_p.out.cell (j := 2) rfl
                    have p_3 := B_p.out.cell (j := 3) rfl
                    have p_f := B_p.out.frozen
                    have p_z := B_p.out.lt
                    have t_0 := B_t.out.cell (j := 0) rfl
                    have t_1 := B_t.out.cell (j := 1) rfl
                    have t_2 := B_t.out.cell (j := 2) rfl
                    have t_3 := B_t.out.cell (j := 3) rfl
                    have t_4 := B_t.out.cell (j := 4) rfl
                    have t_f := B_t.out.frozen
                    have t_z := B_t.out.lt
                    have o_0 := B_o.out.cell (j := 0) rfl
                    have o_1 := B_o.out.cell (j := 1) rfl
                    have o_2 := B_o.out.cell (j := 2) rfl
                    have o_3 := B_o.out.cell (j := 3) rfl
                    have o_f := B_o.out.frozen
                    have o_z := B_o.out.lt
                    have r_0 := B_r.out.cell (j := 0) rfl
                    have r_1 := B_r.out.cell (j := 1) rfl
                    have r_2 := B_r.out.cell (j := 2) rfl
                    have r_3 := B_r.out.cell (j := 3) rfl
                    have r_4 := B_r.out.cell (j := 4) rfl
                    have r_f := B_r.out.frozen
                    have r_z := B_r.out.lt
                    go_wp2
                    refine bodyPost_ret (v := .agg #[.int .i64 0, .int .i64 x, .int .i64 0, .int .i64 P, .int .i64 R]) (by simp [results, Try.results25, go_sem, r_0, r_1, r_2, r_3, r_4, r_f, r_z] <;> (repeat' (first | rfl | apply And.intro))) rfl ⟨0, ⟨⟨x, 0⟩, ⟨P, R⟩⟩, rfl, hJ.out, ?_⟩
                    exact (Below.setCell (Below.setCell (Below.setCell (Below.setCell (Below.setCell HO.out low_r.out _) low_r.out _) low_r.out _) low_r.out _) low_r.out _)
                  · skip
                    have hJ : Hid (JAns a 4 ⟨⟨0, 0⟩, ⟨0, 0⟩⟩) := jans_bad hs.out hl.out (Or.inr (by rw [← hkk.out]; exact hq))
                    clear hj hkk hl
                    have hne : k.i ≠ a.i ∨ (k.i = a.i ∧ k.q ≠ a.q) ∨ (k.i = a.i ∧ k.q = a.q ∧ k.u ≠ a.u) ∨ (k.i = a.i ∧ k.q = a.q ∧ k.u = a.u ∧ k.v ≠ a.v) := by
                      by_cases h1 : k.i = a.i
                      · by_cases h2 : k.q = a.q
                        · by_cases h3 : k.u = a.u
                          · by_cases h4 : k.v = a.v
                            · exact absurd (by cases k; cases a; simp_all) hq
                            · exact Or.inr (Or.inr (Or.inr ⟨h1, h2, h3, h4⟩))
                          · exact Or.inr (Or.inr (Or.inl ⟨h1, h2, h3⟩))
                        · exact Or.inr (Or.inl ⟨h1, h2⟩)
                      · exact Or.inl h1
                    clear hq
                    obtain ⟨k1, k2, k3, k4⟩ := k
                    simp only at hne B_t
                    rcases hne with h1 | ⟨rfl, h1⟩ | ⟨rfl, rfl, h1⟩ | ⟨rfl, rfl, rfl, h1⟩
                    · skip
                      have hb1 : (k1 == a.i) = false := by simpa using h1
                      have hb2 : (k1 != a.i) = true := by simpa using h1
                      have p_0 := B_p.out.cell (j := 0) rfl
                      have p_1 := B_p.out.cell (j := 1) rfl
                      have p_2 := B_p.out.cell (j := 2) rfl
                      have p_3 := B_p.out.cell (j := 3) rfl
                      have p_f := B_p.out.frozen
                      have p_z := B_p.out.lt
                      have t_0 := B_t.out.cell (j := 0) rfl
                      have t_1 := B_t.out.cell (j := 1) rfl
                      have t_2 := B_t.out.cell (j := 2) rfl
                      have t_3 := B_t.out.cell (j := 3) rfl
                      have t_4 := B_t.out.cell (j := 4) rfl
                      have t_f := B_t.out.frozen
                      have t_z := B_t.out.lt
                      have n_0 := B_n.out.cell (j := 0) rfl
                      have n_1 := B_n.out.cell (j := 1) rfl
                      have n_2 := B_n.out.cell (j := 2) rfl
                      have n_3 := B_n.out.cell (j := 3) rfl
                      have n_4 := B_n.out.cell (j := 4) rfl
                      have n_f := B_n.out.frozen
                      have n_z := B_n.out.lt
                      have r_0 := B_r.out.cell (j := 0) rfl
                      have r_1 := B_r.out.cell (j := 1) rfl
                      have r_2 := B_r.out.cell (j := 2) rfl
                      have r_3 := B_r.out.cell (j := 3) rfl
                      have r_4 := B_r.out.cell (j := 4) rfl
                      have r_f := B_r.out.frozen
                      have r_z := B_r.out.lt
                      go_wp2
                      refine bodyPost_ret (v := .agg #[.int .i64 4, .int .i64 0, .int .i64 0, .int .i64 0, .int .i64 0]) (by simp [results, Try.results25, go_sem, r_0, r_1, r_2, r_3, r_4, r_f, r_z] <;> (repeat' (first | rfl | apply And.intro))) rfl ⟨4, ⟨⟨0, 0⟩, ⟨0, 0⟩⟩, rfl, hJ.out, ?_⟩
                      exact (Below.setCell (Below.setCell (Below.setCell (Below.setCell (Below.setCell HO.out low_r.out _) low_r.out _) low_r.out _) low_r.out _) low_r.out _)
                    · skip
                      have hb1 : (k2 == a.q) = false := by simpa using h1
                      have hb2 : (k2 != a.q) = true := by simpa using h1
                      have p_0 := B_p.out.cell (j := 0) rfl
                      have p_1 := B_p.out.cell (j := 1) rfl
                      have p_2 := B_p.out.cell (j := 2) rfl
                      have p_3 := B_p.out.cell (j := 3) rfl
                      have p_f := B_p.out.frozen
                      have p_z := B_p.out.lt
                      have t_0 := B_t.out.cell (j := 0) rfl
                      have t_1 := B_t.out.cell (j := 1) rfl
                      have t_2 := B_t.out.cell (j := 2) rfl
                      have t_3 := B_t.out.cell (j := 3) rfl
                      have t_4 := B_t.out.cell (j := 4) rfl
                      have t_f := B_t.out.frozen
                      have t_z := B_t.out.lt
                      have n_0 := B_n.out.cell (j := 0) rfl
                      have n_1 := B_n.out.cell (j := 1) rfl
                      have n_2 := B_n.out.cell (j := 2) rfl
                      have n_3 := B_n.out.cell (j := 3) rfl
                      have n_4 := B_n.out.cell (j := 4) rfl
                      have n_f := B_n.out.frozen
                      have n_z := B_n.out.lt
                      have r_0 := B_r.out.cell (j := 0) rfl
                      have r_1 := B_r.out.cell (j := 1) rfl
                      have r_2 := B_r.out.cell (j := 2) rfl
                      have r_3 := B_r.out.cell (j := 3) rfl
                      have r_4 := B_r.out.cell (j := 4) rfl
                      have r_f := B_r.out.frozen
                      have r_z := B_r.out.lt
                      go_wp2
                      refine bodyPost_ret (v := .agg #[.int .i64 4, .int .i64 0, .int .i64 0, .int .i64 0, .int .i64 0]) (by simp [results, Try.results25, go_sem, r_0, r_1, r_2, r_3, r_4, r_f, r_z] <;> (repeat' (first | rfl | apply And.intro))) rfl ⟨4, ⟨⟨0, 0⟩, ⟨0, 0⟩⟩, rfl, hJ.out, ?_⟩
                      exact (Below.setCell (Below.setCell (Below.setCell (Below.setCell (Below.setCell HO.out low_r.out _) low_r.out _) low_r.out _) low_r.out _) low_r.out _)
                    · skip
                      have hb1 : (k3 == a.u) = false := by simpa using h1
                      have hb2 : (k3 != a.u) = true := by simpa using h1
                      have p_0 := B_p.out.cell (j := 0) rfl
                      have p_1 := B_p.out.cell (j := 1) rfl
                      have p_2 := B_p.out.cell (j := 2) rfl
                      have p_3 := B_p.out.cell (j := 3) rfl
                      have p_f := B_p.out.frozen
                      have p_z := B_p.out.lt
                      have t_0 := B_t.out.cell (j := 0) rfl
                      have t_1 := B_t.out.cell (j := 1) rfl
                      have t_2 := B_t.out.cell (j := 2) rfl
                      have t_3 := B_t.out.cell (j := 3) rfl
                      have t_4 := B_t.out.cell (j := 4) rfl
                      have t_f := B_t.out.frozen
                      have t_z := B_t.out.lt
                      have n_0 := B_n.out.cell (j := 0) rfl
                      have n_1 := B_n.out.cell (j := 1) rfl
                      have n_2 := B_n.out.cell (j := 2) rfl
                      have n_3 := B_n.out.cell (j := 3) rfl
                      have n_4 := B_n.out.cell (j := 4) rfl
                      have n_f := B_n.out.frozen
                      have n_z := B_n.out.lt
                      have r_0 := B_r.out.cell (j := 0) rfl
                      have r_1 := B_r.out.cell (j := 1) rfl
                      have r_2 := B_r.out.cell (j := 2) rfl
                      have r_3 := B_r.out.cell (j := 3) rfl
                      have r_4 := B_r.out.cell (j := 4) rfl
                      have r_f := B_r.out.frozen
                      have r_z := B_r.out.lt
                      go_wp2
                      refine bodyPost_ret (v := .agg #[.int .i64 4, .int .i64 0, .int .i64 0, .int .i64 0, .int .i64 0]) (by simp [results, Try.results25, go_sem, r_0, r_1, r_2, r_3, r_4, r_f, r_z] <;> (repeat' (first | rfl | apply And.intro))) rfl ⟨4, ⟨⟨0, 0⟩, ⟨0, 0⟩⟩, rfl, hJ.out, ?_⟩
                      exact (Below.setCell (Below.setCell (Below.setCell (Below.setCell (Below.setCell HO.out low_r.out _) low_r.out _) low_r.out _) low_r.out _) low_r.out _)
                    · skip
                      have hb1 : (k4 == a.v) = false := by simpa using h1
                      have hb2 : (k4 != a.v) = true := by simpa using h1
                      have p_0 := B_p.out.cell (j := 0) rfl
                      have p_1 := B_p.out.cell (j := 1) rfl
                      have p_2 := B_p.out.cell (j := 2) rfl
                      have p_3 := B_p.out.cell (j := 3) rfl
                      have p_f := B_p.out.frozen
                      have p_z := B_p.out.lt
                      have t_0 := B_t.out.cell (j := 0) rfl
                      have t_1 := B_t.out.cell (j := 1) rfl
                      have t_2 := B_t.out.cell (j := 2) rfl
                      have t_3 := B_t.out.cell (j := 3) rfl
                      have t_4 := B_t.out.cell (j := 4) rfl
                      have t_f := B_t.out.frozen
                      have t_z := B_t.out.lt
                      have n_0 := B_n.out.cell (j := 0) rfl
                      have n_1 := B_n.out.cell (j := 1) rfl
                      have n_2 := B_n.out.cell (j := 2) rfl
                      have n_3 := B_n.out.cell (j := 3) rfl
                      have n_4 := B_n.out.cell (j := 4) rfl
                      have n_f := B_n.out.frozen
                      have n_z := B_n.out.lt
                      have r_0 := B_r.out.cell (j := 0) rfl
                      have r_1 := B_r.out.cell (j := 1) rfl
                      have r_2 := B_r.out.cell (j := 2) rfl
                      have r_3 := B_r.out.cell (j := 3) rfl
                      have r_4 := B_r.out.cell (j := 4) rfl
                      have r_f := B_r.out.frozen
                      have r_z := B_r.out.lt
                      go_wp2
                      refine bodyPost_ret (v := .agg #[.int .i64 4, .int .i64 0, .int .i64 0, .int .i64 0, .int .i64 0]) (by simp [results, Try.results25, go_sem, r_0, r_1, r_2, r_3, r_4, r_f, r_z] <;> (repeat' (first | rfl | apply And.intro))) rfl ⟨4, ⟨⟨0, 0⟩, ⟨0, 0⟩⟩, rfl, hJ.out, ?_⟩
                      exact (Below.setCell (Below.setCell (Below.setCell (Below.setCell (Below.setCell HO.out low_r.out _) low_r.out _) low_r.out _) low_r.out _) low_r.out _)
                · skip
                  have hk : stk ⟨⟨x, 0⟩, ⟨P, R⟩⟩ = ⟨0, 0, 0, 0⟩ := by simp [stk, hj]
                  rw [hk, hj]
                  have hJ : Hid (JAns a 4 ⟨⟨0, 0⟩, ⟨0, 0⟩⟩) := jans_bad hs.out hl.out (Or.inl (by rw [hj]; decide))
                  clear hk hj
                  go_upto_region 20 with fail
                  obtain ⟨v9, hv⟩ : ∃ Xw, Xw = (v8.alloc (.cells #[.int .i64 3, .int .i64 0, .int .i64 0, .int .i64 0, .int .i64 0] 38)) := ⟨_, rfl⟩
                  rw [← hv]
                  have ne_p_t : Hid (w.heap.size ≠ v8.heap.size) := Nat.ne_of_lt (Nat.lt_of_lt_of_le B_p.out.lt (by omega))
                  have ne_r_t : Hid (w.heap.size + 1 ≠ v8.heap.size) := Nat.ne_of_lt (Nat.lt_of_lt_of_le B_r.out.lt (by omega))
                  have ne_n_t : Hid (v2.heap.size ≠ v8.heap.size) := Nat.ne_of_lt (Nat.lt_of_lt_of_le B_n.out.lt (by omega))
                  have ne_o_t : Hid (v4.heap.size ≠ v8.heap.size) := Nat.ne_of_lt (Nat.lt_of_lt_of_le B_o.out.lt (by omega))
                  have B_t : Hid (Blk v9 (v8.heap.size) #[.int .i64 3, .int .i64 0, .int .i64 0, .int .i64 0, .int .i64 0] 38) := by show Blk v9 (v8.heap.size) _ _; rw [hv]; exact (Blk.new (by simp))
                  have low_t : Hid (w.heap.size ≤ v8.heap.size) := by show w.heap.size ≤ v8.heap.size; have := HO.out.size; omega
                  replace B_p : Hid (Blk v9 (w.heap.size) #[.int .i64 a.i, .int .i64 a.q, .int .i64 a.u, .int .i64 a.v] 36) := by show Blk v9 (w.heap.size) _ _; rw [hv]; exact (Blk.alloc B_p.out _)
                  replace B_r : Hid (Blk v9 (w.heap.size + 1) #[.int .i64 0, .int .i64 0, .int .i64 0, .int .i64 0, .int .i64 0] 33) := by show Blk v9 (w.heap.size + 1) _ _; rw [hv]; exact (Blk.alloc B_r.out _)
                  replace B_n : Hid (Blk v9 (v2.heap.size) #[.int .i64 4, .int .i64 0, .int .i64 0, .int .i64 0, .int .i64 0] 33) := by show Blk v9 (v2.heap.size) _ _; rw [hv]; exact (Blk.alloc B_n.out _)
                  replace B_o : Hid (Blk v9 (v4.heap.size) #[.int .i64 x, .int .i64 0, .int .i64 P, .int .i64 R] 29) := by show Blk v9 (v4.heap.size) _ _; rw [hv]; exact (Blk.alloc B_o.out _)
                  replace HO : Hid (Below w.heap.size w v9) := by show Below w.heap.size w v9; rw [hv]; exact (below_new HO.out _)
                  clear hv
                  have t_0 := B_t.out.cell (j := 0) rfl
                  have t_1 := B_t.out.cell (j := 1) rfl
                  have t_2 := B_t.out.cell (j := 2) rfl
                  have t_3 := B_t.out.cell (j := 3) rfl
                  have t_4 := B_t.out.cell (j := 4) rfl
                  have t_f := B_t.out.frozen
                  have t_z := B_t.out.lt
                  have n_0 := B_n.out.cell (j := 0) rfl
                  have n_1 := B_n.out.cell (j := 1) rfl
                  have n_2 := B_n.out.cell (j := 2) rfl
                  have n_3 := B_n.out.cell (j := 3) rfl
                  have n_4 := B_n.out.cell (j := 4) rfl
                  have n_f := B_n.out.frozen
                  have n_z := B_n.out.lt
                  have r_0 := B_r.out.cell (j := 0) rfl
                  have r_1 := B_r.out.cell (j := 1) rfl
                  have r_2 := B_r.out.cell (j := 2) rfl
                  have r_3 := B_r.out.cell (j := 3) rfl
                  have r_4 := B_r.out.cell (j := 4) rfl
                  have r_f := B_r.out.frozen
                  have r_z := B_r.out.lt
                  go_wp2
                  refine bodyPost_ret (v := .agg #[.int .i64 4, .int .i64 0, .int .i64 0, .int .i64 0, .int .i64 0]) (by simp [results, Try.results25, go_sem, r_0, r_1, r_2, r_3, r_4, r_f, r_z] <;> (repeat' (first | rfl | apply And.intro))) rfl ⟨4, ⟨⟨0, 0⟩, ⟨0, 0⟩⟩, rfl, hJ.out, ?_⟩
                  exact (Below.setCell (Below.setCell (Below.setCell (Below.setCell (Below.setCell HO.out low_r.out _) low_r.out _) low_r.out _) low_r.out _) low_r.out _)
              · skip
                have t2b : (MV != 0) = true := by simpa using t2
                have p_0 := B_p.out.cell (j := 0) rfl
                have p_1 := B_p.out.cell (j := 1) rfl
                have p_2 := B_p.out.cell (j := 2) rfl
                have p_3 := B_p.out.cell (j := 3) rfl
                have p_f := B_p.out.frozen
                have p_z := B_p.out.lt
                have hJ : Hid (JAns a 4 ⟨⟨0, 0⟩, ⟨0, 0⟩⟩) := jans_none hs.out fun m hm => t2 (HU.out ⟨m, hm⟩).2
                have n_0 := B_n.out.cell (j := 0) rfl
                have n_1 := B_n.out.cell (j := 1) rfl
                have n_2 := B_n.out.cell (j := 2) rfl
                have n_3 := B_n.out.cell (j := 3) rfl
                have n_4 := B_n.out.cell (j := 4) rfl
                have n_f := B_n.out.frozen
                have n_z := B_n.out.lt
                have r_0 := B_r.out.cell (j := 0) rfl
                have r_1 := B_r.out.cell (j := 1) rfl
                have r_2 := B_r.out.cell (j := 2) rfl
                have r_3 := B_r.out.cell (j := 3) rfl
                have r_4 := B_r.out.cell (j := 4) rfl
                have r_f := B_r.out.frozen
                have r_z := B_r.out.lt
                go_wp2
                refine bodyPost_ret (v := .agg #[.int .i64 4, .int .i64 0, .int .i64 0, .int .i64 0, .int .i64 0]) (by simp [results, Try.results25, go_sem, n_0, n_1, n_2, n_3, n_4, n_f, n_z, r_0, r_1, r_2, r_3, r_4, r_f, r_z] <;> (repeat' (first | rfl | apply And.intro))) rfl ⟨4, ⟨⟨0, 0⟩, ⟨0, 0⟩⟩, rfl, hJ.out, ?_⟩
                exact (Below.setCell (Below.setCell (Below.setCell (Below.setCell (Below.setCell HO.out low_r.out _) low_r.out _) low_r.out _) low_r.out _) low_r.out _)
            · skip
              have t1b : (MU != 0) = true := by simpa using t1
              have p_0 := B_p.out.cell (j := 0) rfl
              have p_1 := B_p.out.cell (j := 1) rfl
              have p_2 := B_p.out.cell (j := 2) rfl
              have p_3 := B_p.out.cell (j := 3) rfl
              have p_f := B_p.out.frozen
              have p_z := B_p.out.lt
              have hJ : Hid (JAns a 4 ⟨⟨0, 0⟩, ⟨0, 0⟩⟩) := jans_none hs.out fun m hm => t1 (HU.out ⟨m, hm⟩).1
              have n_0 := B_n.out.cell (j := 0) rfl
              have n_1 := B_n.out.cell (j := 1) rfl
              have n_2 := B_n.out.cell (j := 2) rfl
              have n_3 := B_n.out.cell (j := 3) rfl
              have n_4 := B_n.out.cell (j := 4) rfl
              have n_f := B_n.out.frozen
              have n_z := B_n.out.lt
              have r_0 := B_r.out.cell (j := 0) rfl
              have r_1 := B_r.out.cell (j := 1) rfl
              have r_2 := B_r.out.cell (j := 2) rfl
              have r_3 := B_r.out.cell (j := 3) rfl
              have r_4 := B_r.out.cell (j := 4) rfl
              have r_f := B_r.out.frozen
              have r_z := B_r.out.lt
              go_wp2
              refine bodyPost_ret (v := .agg #[.int .i64 4, .int .i64 0, .int .i64 0, .int .i64 0, .int .i64 0]) (by simp [results, Try.results25, go_sem, n_0, n_1, n_2, n_3, n_4, n_f, n_z, r_0, r_1, r_2, r_3, r_4, r_f, r_z] <;> (repeat' (first | rfl | apply And.intro))) rfl ⟨4, ⟨⟨0, 0⟩, ⟨0, 0⟩⟩, rfl, hJ.out, ?_⟩
              exact (Below.setCell (Below.setCell (Below.setCell (Below.setCell (Below.setCell HO.out low_r.out _) low_r.out _) low_r.out _) low_r.out _) low_r.out _)
        · skip
          replace hno : Hid _ := hno
          have hJ : Hid (JAns a 4 ⟨⟨0, 0⟩, ⟨0, 0⟩⟩) := jans_none hs.out fun m hm => (by obtain ⟨q1, _, _, _, _, _, _⟩ := hm.eqs; exact hno.out m.x.re hm.xr (by have := HB.out.2.2.2.2.1; omega))
          have n_0 := B_n.out.cell (j := 0) rfl
          have n_1 := B_n.out.cell (j := 1) rfl
          have n_2 := B_n.out.cell (j := 2) rfl
          have n_3 := B_n.out.cell (j := 3) rfl
          have n_4 := B_n.out.cell (j := 4) rfl
          have n_f := B_n.out.frozen
          have n_z := B_n.out.lt
          have r_0 := B_r.out.cell (j := 0) rfl
          have r_1 := B_r.out.cell (j := 1) rfl
          have r_2 := B_r.out.cell (j := 2) rfl
          have r_3 := B_r.out.cell (j := 3) rfl
          have r_4 := B_r.out.cell (j := 4) rfl
          have r_f := B_r.out.frozen
          have r_z := B_r.out.lt
          go_wp2
          refine bodyPost_ret (v := .agg #[.int .i64 4, .int .i64 0, .int .i64 0, .int .i64 0, .int .i64 0]) (by simp [results, Try.results25, go_sem, n_0, n_1, n_2, n_3, n_4, n_f, n_z, r_0, r_1, r_2, r_3, r_4, r_f, r_z] <;> (repeat' (first | rfl | apply And.intro))) rfl ⟨4, ⟨⟨0, 0⟩, ⟨0, 0⟩⟩, rfl, hJ.out, ?_⟩
          exact (Below.setCell (Below.setCell (Below.setCell (Below.setCell (Below.setCell HO.out low_r.out _) low_r.out _) low_r.out _) low_r.out _) low_r.out _)
      · skip
        have p_0 := B_p.out.cell (j := 0) rfl
        have p_1 := B_p.out.cell (j := 1) rfl
        have p_2 := B_p.out.cell (j := 2) rfl
        have p_3 := B_p.out.cell (j := 3) rfl
        have p_f := B_p.out.frozen
        have p_z := B_p.out.lt
        have hJ : Hid (JAns a 4 ⟨⟨0, 0⟩, ⟨0, 0⟩⟩) := jans_none hs.out fun m hm => c2 (HD.out ⟨m, hm⟩).2
        have n_0 := B_n.out.cell (j := 0) rfl
        have n_1 := B_n.out.cell (j := 1) rfl
        have n_2 := B_n.out.cell (j := 2) rfl
        have n_3 := B_n.out.cell (j := 3) rfl
        have n_4 := B_n.out.cell (j := 4) rfl
        have n_f := B_n.out.frozen
        have n_z := B_n.out.lt
        have r_0 := B_r.out.cell (j := 0) rfl
        have r_1 := B_r.out.cell (j := 1) rfl
        have r_2 := B_r.out.cell (j := 2) rfl
        have r_3 := B_r.out.cell (j := 3) rfl
        have r_4 := B_r.out.cell (j := 4) rfl
        have r_f := B_r.out.frozen
        have r_z := B_r.out.lt
        go_wp2
        refine bodyPost_ret (v := .agg #[.int .i64 4, .int .i64 0, .int .i64 0, .int .i64 0, .int .i64 0]) (by simp [results, Try.results25, go_sem, n_0, n_1, n_2, n_3, n_4, n_f, n_z, r_0, r_1, r_2, r_3, r_4, r_f, r_z] <;> (repeat' (first | rfl | apply And.intro))) rfl ⟨4, ⟨⟨0, 0⟩, ⟨0, 0⟩⟩, rfl, hJ.out, ?_⟩
        exact (Below.setCell (Below.setCell (Below.setCell (Below.setCell (Below.setCell HO.out low_r.out _) low_r.out _) low_r.out _) low_r.out _) low_r.out _)
    · skip
      have p_0 := B_p.out.cell (j := 0) rfl
      have p_1 := B_p.out.cell (j := 1) rfl
      have p_2 := B_p.out.cell (j := 2) rfl
      have p_3 := B_p.out.cell (j := 3) rfl
      have p_f := B_p.out.frozen
      have p_z := B_p.out.lt
      have hJ : Hid (JAns a 4 ⟨⟨0, 0⟩, ⟨0, 0⟩⟩) := jans_none hs.out fun m hm => c1 (HD.out ⟨m, hm⟩).1
      have n_0 := B_n.out.cell (j := 0) rfl
      have n_1 := B_n.out.cell (j := 1) rfl
      have n_2 := B_n.out.cell (j := 2) rfl
      have n_3 := B_n.out.cell (j := 3) rfl
      have n_4 := B_n.out.cell (j := 4) rfl
      have n_f := B_n.out.frozen
      have n_z := B_n.out.lt
      have r_0 := B_r.out.cell (j := 0) rfl
      have r_1 := B_r.out.cell (j := 1) rfl
      have r_2 := B_r.out.cell (j := 2) rfl
      have r_3 := B_r.out.cell (j := 3) rfl
      have r_4 := B_r.out.cell (j := 4) rfl
      have r_f := B_r.out.frozen
      have r_z := B_r.out.lt
      go_wp2
      refine bodyPost_ret (v := .agg #[.int .i64 4, .int .i64 0, .int .i64 0, .int .i64 0, .int .i64 0]) (by simp [results, Try.results25, go_sem, n_0, n_1, n_2, n_3, n_4, n_f, n_z, r_0, r_1, r_2, r_3, r_4, r_f, r_z] <;> (repeat' (first | rfl | apply And.intro))) rfl ⟨4, ⟨⟨0, 0⟩, ⟨0, 0⟩⟩, rfl, hJ.out, ?_⟩
      exact (Below.setCell (Below.setCell (Below.setCell (Below.setCell (Below.setCell HO.out low_r.out _) low_r.out _) low_r.out _) low_r.out _) low_r.out _)
  · skip
    have hJ : Hid (JAns a (scode a) ⟨⟨0, 0⟩, ⟨0, 0⟩⟩) := jans_fault hs
    obtain ⟨cz, hcz⟩ : ∃ c, c = scode a := ⟨_, rfl⟩
    rw [← hcz] at hs hJ ⊢
    clear hcz
    have hpb : (cz != 0) = true := by simpa using hs
    have r_0 := B_r.out.cell (j := 0) rfl
    have r_1 := B_r.out.cell (j := 1) rfl
    have r_2 := B_r.out.cell (j := 2) rfl
    have r_3 := B_r.out.cell (j := 3) rfl
    have r_4 := B_r.out.cell (j := 4) rfl
    have r_f := B_r.out.frozen
    have r_z := B_r.out.lt
    go_wp2
    refine bodyPost_ret (v := .agg #[.int .i64 cz, .int .i64 0, .int .i64 0, .int .i64 0, .int .i64 0]) (by simp [results, Try.results25, go_sem, r_0, r_1, r_2, r_3, r_4, r_f, r_z] <;> (repeat' (first | rfl | apply And.intro))) rfl ⟨cz, ⟨⟨0, 0⟩, ⟨0, 0⟩⟩, rfl, hJ.out, ?_⟩
    exact (Below.setCell (Below.setCell (Below.setCell (Below.setCell (Below.setCell HO.out low_r.out _) low_r.out _) low_r.out _) low_r.out _) low_r.out _)
end Go.Proofs.Ytloebnlmeplgbaa
