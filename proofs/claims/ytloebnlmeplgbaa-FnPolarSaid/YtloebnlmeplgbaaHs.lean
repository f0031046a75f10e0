/- Halves of products: the program's halfStokes. -/
import Derived.Test.YtloebnlmeplgbaaMf
import Derived.Test.YtloebnlmeplgbaaTos
import Derived.Handy
namespace Go.Proofs.Ytloebnlmeplgbaa
open Go.RowKit
set_option linter.unusedVariables false
set_option linter.unusedSimpArgs false
theorem tdiv_wrap (x : Int) (h0 : -9223372036854775808 ≤ x) (h1 : x ≤ 9223372036854775807) : wrap64 (x.tdiv 2) = x.tdiv 2 := by
  have h2 : x.tdiv 2 = if 0 ≤ x then x / 2 else -((-x) / 2) := by
    split
    · exact Int.tdiv_eq_ediv_of_nonneg (by omega)
    · have h := Int.neg_tdiv x 2
      have h3 : (-x).tdiv 2 = (-x) / 2 := Int.tdiv_eq_ediv_of_nonneg (by omega)
      omega
  rw [h2]
  unfold wrap64
  split <;> omega
theorem seg_step {W : World} {b n k : Nat} {t : TypeId} {f : Nat → Int} (h : Seg W b t 0 n (fun i => .int .i64 (if i < k then f i else 0))) (hk : k < n) {x : Int} (hx : x = f k) :
    Seg (W.setCell ⟨b, k, none⟩ (.int .i64 x)) b t 0 n (fun i => .int .i64 (if i < k + 1 then f i else 0)) := by
  have h := h.set k hk (.int .i64 x)
  rw [Nat.zero_add] at h
  refine h.congr fun i hi => ?_
  by_cases e : i = k
  · subst e
    simp [hx]
  · by_cases e2 : i < k
    · simp [e, e2, Nat.lt_succ_of_lt e2]
    · have : ¬ i < k + 1 := by omega
      simp [e, e2, this]
theorem tmod_wrap (x : Int) : wrap64 (x.tmod 2) = x.tmod 2 := by
  have h1 := Int.tmod_lt_of_pos x (show (0 : Int) < 2 by omega)
  have h2 : -2 < x.tmod 2 := by
    have h := Int.tmod_lt_of_pos (-x) (show (0 : Int) < 2 by omega)
    rw [Int.neg_tmod] at h
    omega
  unfold wrap64
  omega
set_option maxRecDepth 20000 in
set_option maxHeartbeats 3200000 in
theorem ihalf4 (P : Nat → Int) (hP : ∀ k, k < 4 → -9223372036854775808 ≤ P k ∧ P k ≤ 9223372036854775807) (w : World) : Calls Try.prog 74 #[.agg #[.int .i64 (P 0), .int .i64 (P 1), .int .i64 (P 2), .int .i64 (P 3)]] w fun e w' => e = .returned (.agg #[.int .i64 (hcode P), .int .i64 (hsk P).i, .int .i64 (hsk P).q, .int .i64 (hsk P).u, .int .i64 (hsk P).v]) ∧ Below w.heap.size w w' := by
  have HP : Hid (∀ k, k < 4 → -9223372036854775808 ≤ P k ∧ P k ≤ 9223372036854775807) := hP
  clear hP
  go_enter Try.func74, Try.ntmps74
  have HO : Hid (Below w.heap.size w w) := Below.refl _ _
  go_upto_region 2 with fail
  obtain ⟨v1, hv⟩ : ∃ Xw, Xw = (((w.alloc (.cells #[.int .i64 (P 0), .int .i64 (P 1), .int .i64 (P 2), .int .i64 (P 3)] 105)).alloc (.cells #[.int .i64 0, .int .i64 0, .int .i64 0, .int .i64 0, .int .i64 0] 38)).alloc (.cells #[.int .i64 0, .int .i64 0, .int .i64 0, .int .i64 0] 105)) := ⟨_, rfl⟩
  rw [← hv]
  have ne_a_r : Hid (w.heap.size ≠ w.heap.size + 1) := by show (w.heap.size : Nat) ≠ w.heap.size + 1; omega
  have ne_a_m : Hid (w.heap.size ≠ w.heap.size + 1 + 1) := by show (w.heap.size : Nat) ≠ w.heap.size + 1 + 1; omega
  have ne_r_m : Hid (w.heap.size + 1 ≠ w.heap.size + 1 + 1) := by show (w.heap.size + 1 : Nat) ≠ w.heap.size + 1 + 1; omega
  have B_a : Hid (Blk v1 (w.heap.size) #[.int .i64 (P 0), .int .i64 (P 1), .int .i64 (P 2), .int .i64 (P 3)] 105) := by show Blk v1 (w.heap.size) _ _; rw [hv]; exact (Blk.alloc (Blk.alloc (Blk.new (by simp)) _) _)
  have low_a : Hid (w.heap.size ≤ w.heap.size) := by show w.heap.size ≤ w.heap.size; have := HO.out.size; omega
  have B_r : Hid (Blk v1 (w.heap.size + 1) #[.int .i64 0, .int .i64 0, .int .i64 0, .int .i64 0, .int .i64 0] 38) := by show Blk v1 (w.heap.size + 1) _ _; rw [hv]; exact (Blk.alloc (Blk.new (by simp)) _)
  have low_r : Hid (w.heap.size ≤ w.heap.size + 1) := by show w.heap.size ≤ w.heap.size + 1; have := HO.out.size; omega
  have B_m : Hid (Blk v1 (w.heap.size + 1 + 1) #[.int .i64 0, .int .i64 0, .int .i64 0, .int .i64 0] 105) := by show Blk v1 (w.heap.size + 1 + 1) _ _; rw [hv]; exact (Blk.new (by simp))
  have low_m : Hid (w.heap.size ≤ w.heap.size + 1 + 1) := by show w.heap.size ≤ w.heap.size + 1 + 1; have := HO.out.size; omega
  replace HO : Hid (Below w.heap.size w v1) := by show Below w.heap.size w v1; rw [hv]; exact (below_new (below_new (below_new HO.out _) _) _)
  clear hv
  have a_0 := B_a.out.cell (j := 0) rfl
  have a_1 := B_a.out.cell (j := 1) rfl
  have a_2 := B_a.out.cell (j := 2) rfl
  have a_3 := B_a.out.cell (j := 3) rfl
  have a_f := B_a.out.frozen
  have a_z := B_a.out.lt
  go_wp2_with fail
  clear a_0 a_1 a_2 a_3 a_f a_z
  have S0 : Seg v1 (w.heap.size + 1 + 1) 105 0 4 (fun i => .int .i64 (if i < 0 then hv P i else 0)) := ⟨_, B_m.out, lt4 rfl rfl rfl rfl⟩
  go_loopw [9] (fun i wr => ∃ k : Nat, k ≤ 4 ∧ i = .int .i64 k ∧ evens P k = true ∧ Blk wr (w.heap.size + 1) #[.int .i64 0, .int .i64 0, .int .i64 0, .int .i64 0, .int .i64 0] 38 ∧ Seg wr (w.heap.size + 1 + 1) 105 0 4 (fun i => .int .i64 (if i < k then hv P i else 0)) ∧ Below w.heap.size w wr) (fun i _ => 4 - (intOf i).toNat)
  case atStart => exact ⟨0, Nat.zero_le _, rfl, rfl, B_r.out, S0, HO.out⟩
  case round =>
    clear B_r B_m B_a HO S0
    obtain ⟨k, hk, rfl, hev, br, sg, ho⟩ := hrel
    have HE : Hid (evens P k = true) := hev
    clear hev
    have HS : Hid (Seg wr (w.heap.size + 1 + 1) 105 0 4 (fun i => .int .i64 (if i < k then hv P i else 0))) := sg
    clear sg
    by_cases hkn : k < 4
    · skip
      have B_r : Hid (Blk wr (w.heap.size + 1) #[.int .i64 0, .int .i64 0, .int .i64 0, .int .i64 0, .int .i64 0] 38) := br
      have HO : Hid (Below w.heap.size w wr) := ho
      clear br ho
      have hix := idx4 P hkn
      obtain ⟨z, hz⟩ : ∃ z, z = P k := ⟨_, rfl⟩
      rw [← hz] at hix
      have ht := tmod_wrap z
      have hd := tdiv_wrap z (by rw [hz]; exact (HP.out k hkn).1) (by rw [hz]; exact (HP.out k hkn).2)
      by_cases hodd : z.tmod 2 = 0
      · skip
        have hev1 : Hid (evens P (k + 1) = true) := by show evens P (k + 1) = true; simp only [evens, HE.out, Bool.true_and]; exact decide_eq_true (by rw [← hz]; exact hodd)
        have hvk : Hid (z.tdiv 2 = hv P k) := by show z.tdiv 2 = _; rw [hz]; rfl
        clear hz
        have mc := HS.out.cell hkn
        rw [Nat.zero_add] at mc
        have mfz := HS.out.frozen
        have mlt := HS.out.lt
        go_wp2
        go_roundw
        case rel => exact ⟨k + 1, by omega, by simp, hev1.out, Blk.setOther B_r.out (by simp) _, seg_step HS.out hkn hvk.out, Below.setCell HO.out (by simp; omega) _⟩
        case measure => simp [intOf]; omega
      · skip
        have hc : Hid (hcode P = 1) := by show hcode P = 1; simp [hcode, evens_bad (P := P) hkn (by rw [← hz]; exact hodd)]
        have hs : Hid (hsk P = ⟨0, 0, 0, 0⟩) := by show hsk P = _; simp [hsk, hc.out]
        clear hz
        have r_0 := B_r.out.cell (j := 0) rfl
        have r_1 := B_r.out.cell (j := 1) rfl
        have r_2 := B_r.out.cell (j := 2) rfl
        have r_3 := B_r.out.cell (j := 3) rfl
        have r_4 := B_r.out.cell (j := 4) rfl
        have r_f := B_r.out.frozen
        have r_z := B_r.out.lt
        go_wp2
        refine bodyPost_ret (v := .agg #[.int .i64 1, .int .i64 0, .int .i64 0, .int .i64 0, .int .i64 0]) (by simp [results, Try.results74, go_sem, r_0, r_1, r_2, r_3, r_4, r_f, r_z] <;> (repeat' (first | rfl | apply And.intro))) rfl ⟨by rw [hc.out, hs.out], ?_⟩
        exact (Below.setCell (Below.setCell (Below.setCell (Below.setCell (Below.setCell HO.out low_r.out _) low_r.out _) low_r.out _) low_r.out _) low_r.out _)
    · obtain rfl : k = 4 := by omega
      have B_r : Hid (Blk wr (w.heap.size + 1) #[.int .i64 0, .int .i64 0, .int .i64 0, .int .i64 0, .int .i64 0] 38) := br
      have HO : Hid (Below w.heap.size w wr) := ho
      clear br ho
      have HV : Hid (Seg wr (w.heap.size + 1 + 1) 105 0 4 (fun i => .int .i64 (hv P i))) := HS.out.congr (lt4 rfl rfl rfl rfl)
      have hb : bcode 2000000000 4 (hv P) = 0 ∨ bcode 2000000000 4 (hv P) = 3 := by unfold bcode; split <;> simp
      have hcd : hcode P = bcode 2000000000 4 (hv P) := by simp [hcode, HE.out]
      go_wp2_with fail
      refine (ibounds_any 2000000000 (HV.out.rd (cap := 4)) (by omega) (by omega) (by omega)).mono ?_
      rintro e w1 ⟨rfl, rfl⟩
      rcases hb with hb | hb
      · skip
        rw [hb]
        have hs : Hid (hcode P = 0 ∧ hsk P = ⟨hv P 0, hv P 1, hv P 2, hv P 3⟩) := ⟨hcd.trans hb, by simp [hsk, hcd.trans hb]⟩
        clear hcd hb
        have mc0 := HV.out.cell (i := 0) (by omega)
        simp only [Nat.zero_add, Nat.reduceAdd] at mc0
        have mc1 := HV.out.cell (i := 1) (by omega)
        simp only [Nat.zero_add, Nat.reduceAdd] at mc1
        have mc2 := HV.out.cell (i := 2) (by omega)
        simp only [Nat.zero_add, Nat.reduceAdd] at mc2
        have mc3 := HV.out.cell (i := 3) (by omega)
        simp only [Nat.zero_add, Nat.reduceAdd] at mc3
        go_wp2_with fail
        refine (istok ⟨hv P 0, hv P 1, hv P 2, hv P 3⟩ _).mono ?_
        rintro e v2 ⟨rfl, hb⟩
        replace B_r : Hid (Blk v2 (w.heap.size + 1) #[.int .i64 0, .int .i64 0, .int .i64 0, .int .i64 0, .int .i64 0] 38) := by show Blk v2 (w.heap.size + 1) _ _; exact Blk.old B_r.out hb
        replace HO : Hid (Below w.heap.size w v2) := box_step HO.out hb (Nat.le_refl _)
        clear hb
        clear mc0 mc1 mc2 mc3
        have r_0 := B_r.out.cell (j := 0) rfl
        have r_1 := B_r.out.cell (j := 1) rfl
        have r_2 := B_r.out.cell (j := 2) rfl
        have r_3 := B_r.out.cell (j := 3) rfl
        have r_4 := B_r.out.cell (j := 4) rfl
        have r_f := B_r.out.frozen
        have r_z := B_r.out.lt
        go_wp2
        refine bodyPost_ret (v := .agg #[.int .i64 0, .int .i64 (hv P 0), .int .i64 (hv P 1), .int .i64 (hv P 2), .int .i64 (hv P 3)]) (by simp [results, Try.results74, go_sem, r_0, r_1, r_2, r_3, r_4, r_f, r_z] <;> (repeat' (first | rfl | apply And.intro))) rfl ⟨by rw [hs.out.1, hs.out.2], ?_⟩
        exact (Below.setCell (Below.setCell (Below.setCell (Below.setCell (Below.setCell HO.out low_r.out _) low_r.out _) low_r.out _) low_r.out _) low_r.out _)
      · skip
        rw [hb]
        have hs : Hid (hcode P = 3 ∧ hsk P = ⟨0, 0, 0, 0⟩) := ⟨hcd.trans hb, by simp [hsk, hcd.trans hb]⟩
        clear hcd hb
        have r_0 := B_r.out.cell (j := 0) rfl
        have r_1 := B_r.out.cell (j := 1) rfl
        have r_2 := B_r.out.cell (j := 2) rfl
        have r_3 := B_r.out.cell (j := 3) rfl
        have r_4 := B_r.out.cell (j := 4) rfl
        have r_f := B_r.out.frozen
        have r_z := B_r.out.lt
        go_wp2
        refine bodyPost_ret (v := .agg #[.int .i64 3, .int .i64 0, .int .i64 0, .int .i64 0, .int .i64 0]) (by simp [results, Try.results74, go_sem, r_0, r_1, r_2, r_3, r_4, r_f, r_z] <;> (repeat' (first | rfl | apply And.intro))) rfl ⟨by rw [hs.out.1, hs.out.2], ?_⟩
        exact (Below.setCell (Below.setCell (Below.setCell (Below.setCell (Below.setCell HO.out low_r.out _) low_r.out _) low_r.out _) low_r.out _) low_r.out _)
end Go.Proofs.Ytloebnlmeplgbaa
