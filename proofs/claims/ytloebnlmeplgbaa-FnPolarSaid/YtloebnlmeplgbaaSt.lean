/- The faults of a light's four numbers: both packages. -/
import Derived.Test.YtloebnlmeplgbaaSf
import Derived.Handy
namespace Go.Proofs.Ytloebnlmeplgbaa
open Go.RowKit
set_option linter.unusedVariables false
set_option linter.unusedSimpArgs false
def scode (a : Sk) : Int := if wide a.i && wide a.q && wide a.u && wide a.v then (if a.i < 0 ∨ a.i * a.i < a.q * a.q + a.u * a.u + a.v * a.v then 1 else 0) else 3
def snum (a : Sk) : Nat → Int | 0 => a.i | 1 => a.q | 2 => a.u | _ => a.v
theorem snum_is (a : Sk) : bcode 2000000000 4 (snum a) = if wide a.i && wide a.q && wide a.u && wide a.v then 0 else 3 := by
  unfold bcode
  congr 1
theorem wide_t {n : Int} (h : wide n = true) : -2000000000 ≤ n ∧ n ≤ 2000000000 := by simpa [wide] using h
theorem sq_pos (x : Int) : 0 ≤ x * x := by
  by_cases h : 0 ≤ x
  · exact Int.mul_nonneg h h
  · have := Int.mul_nonneg (a := -x) (b := -x) (by omega) (by omega)
    rwa [Int.neg_mul_neg] at this
theorem sq_le {x m : Int} (h0 : -m ≤ x) (h1 : x ≤ m) : x * x ≤ m * m := by
  have h := Int.mul_nonneg (a := m - x) (b := m + x) (by omega) (by omega)
  have e : (m - x) * (m + x) = m * m - x * x := by rw [Int.sub_mul, Int.mul_add, Int.mul_add, Int.mul_comm m x]; omega
  omega
theorem wide_sq {n : Int} (h : wide n = true) : 0 ≤ n * n ∧ n * n ≤ 4000000000000000000 := ⟨sq_pos n, sq_le (wide_t h).1 (wide_t h).2⟩
theorem w64 {n : Int} (h0 : -9223372036854775808 ≤ n) (h1 : n ≤ 9223372036854775807) : wrap64 n = n := by unfold wrap64; omega
theorem wu64 {n : Int} (h0 : 0 ≤ n) (h1 : n ≤ 18446744073709551615) : IntKind.u64.wrap n = n := by simp [IntKind.wrap, IntKind.signed, IntKind.bits]; omega
set_option maxRecDepth 20000 in
set_option maxHeartbeats 1600000 in
theorem istok_0 (a : Sk) (h : (wide a.i && wide a.q && wide a.u && wide a.v) = false) (w : World) : Calls Try.prog 48 #[.agg #[.int .i64 a.i, .int .i64 a.q, .int .i64 a.u, .int .i64 a.v]] w fun e w' => e = .returned (.int .i64 (scode a)) ∧ Below w.heap.size w w' := by
  have h0 : bcode 2000000000 4 (snum a) = 3 := by rw [snum_is, h]; rfl
  go_enter Try.func48, Try.ntmps48
  go_wp2_with fail
  refine (ibounds_some _ 0 4 4 (snum a) 2000000000 _ (by omega) (by omega) (by omega) (lt4 (by go_simp; rfl) (by go_simp; rfl) (by go_simp; rfl) (by go_simp; rfl))).mono ?_
  rintro e w1 ⟨rfl, rfl⟩
  rw [h0]
  go_wp2
  go_ret
  exact ⟨ret_int (by simp only [scode, h]; rfl), by go_grown⟩
set_option maxRecDepth 20000 in
set_option maxHeartbeats 1600000 in
theorem istok_1 (a : Sk) (h : (wide a.i && wide a.q && wide a.u && wide a.v) = true) (w : World) : Calls Try.prog 48 #[.agg #[.int .i64 a.i, .int .i64 a.q, .int .i64 a.u, .int .i64 a.v]] w fun e w' => e = .returned (.int .i64 (scode a)) ∧ Below w.heap.size w w' := by
  have h0 : bcode 2000000000 4 (snum a) = 0 := by rw [snum_is, h]; rfl
  obtain ⟨hi, hq, hu, hv⟩ : wide a.i = true ∧ wide a.q = true ∧ wide a.u = true ∧ wide a.v = true := by simp only [Bool.and_eq_true] at h; exact ⟨h.1.1.1, h.1.1.2, h.1.2, h.2⟩
  obtain ⟨I2, eI⟩ : ∃ x, x = a.i * a.i := ⟨_, rfl⟩
  obtain ⟨Q2, eQ⟩ : ∃ x, x = a.q * a.q := ⟨_, rfl⟩
  obtain ⟨U2, eU⟩ : ∃ x, x = a.u * a.u := ⟨_, rfl⟩
  obtain ⟨V2, eV⟩ : ∃ x, x = a.v * a.v := ⟨_, rfl⟩
  have bI := wide_sq hi
  have bQ := wide_sq hq
  have bU := wide_sq hu
  have bV := wide_sq hv
  have hs : scode a = if a.i < 0 ∨ I2 < Q2 + U2 + V2 then 1 else 0 := by simp only [scode, h, eI, eQ, eU, eV, if_true]
  rw [← eI] at bI
  rw [← eQ] at bQ
  rw [← eU] at bU
  rw [← eV] at bV
  have wI : wrap64 (a.i * a.i) = I2 := by rw [← eI]; exact w64 (by omega) (by omega)
  have wQ : wrap64 (a.q * a.q) = Q2 := by rw [← eQ]; exact w64 (by omega) (by omega)
  have wU : wrap64 (a.u * a.u) = U2 := by rw [← eU]; exact w64 (by omega) (by omega)
  have wV : wrap64 (a.v * a.v) = V2 := by rw [← eV]; exact w64 (by omega) (by omega)
  clear eI eQ eU eV
  obtain ⟨A2, eA⟩ : ∃ x, x = Q2 + U2 + V2 := ⟨_, rfl⟩
  have uI := wu64 (n := I2) (by omega) (by omega)
  have uQ := wu64 (n := Q2) (by omega) (by omega)
  have uU := wu64 (n := U2) (by omega) (by omega)
  have uV := wu64 (n := V2) (by omega) (by omega)
  obtain ⟨A1, eA1⟩ : ∃ x, x = Q2 + U2 := ⟨_, rfl⟩
  have uA1 : IntKind.u64.wrap (Q2 + U2) = A1 := by rw [eA1]; exact wu64 (by omega) (by omega)
  have uA2 : IntKind.u64.wrap (A1 + V2) = A2 := by rw [eA1, eA]; exact wu64 (by omega) (by omega)
  rw [← eA] at hs
  clear eA eA1 bI bQ bU bV hi hq hu hv
  replace hs : Hid (scode a = if a.i < 0 ∨ I2 < A2 then 1 else 0) := hs
  replace h : Hid ((wide a.i && wide a.q && wide a.u && wide a.v) = true) := h
  by_cases n0 : a.i < 0
  · have hc : Hid (scode a = 1) := by show scode a = 1; rw [hs.out, if_pos (Or.inl n0)]
    go_enter Try.func48, Try.ntmps48
    go_wp2_with fail
    refine (ibounds_some _ 0 4 4 (snum a) 2000000000 _ (by omega) (by omega) (by omega) (lt4 (by go_simp; rfl) (by go_simp; rfl) (by go_simp; rfl) (by go_simp; rfl))).mono ?_
    rintro e w1 ⟨rfl, rfl⟩
    rw [h0]
    go_wp2
    go_ret
    exact ⟨ret_int hc.out.symm, by go_grown⟩
  · by_cases n1 : I2 < A2
    · have hc : Hid (scode a = 1) := by show scode a = 1; rw [hs.out, if_pos (Or.inr n1)]
      go_enter Try.func48, Try.ntmps48
      go_wp2_with fail
      refine (ibounds_some _ 0 4 4 (snum a) 2000000000 _ (by omega) (by omega) (by omega) (lt4 (by go_simp; rfl) (by go_simp; rfl) (by go_simp; rfl) (by go_simp; rfl))).mono ?_
      rintro e w1 ⟨rfl, rfl⟩
      rw [h0]
      go_wp2
      go_ret
      exact ⟨ret_int hc.out.symm, by go_grown⟩
    · have hc : Hid (scode a = 0) := by show scode a = 0; rw [hs.out, if_neg (by omega)]
      go_enter Try.func48, Try.ntmps48
      go_wp2_with fail
      refine (ibounds_some _ 0 4 4 (snum a) 2000000000 _ (by omega) (by omega) (by omega) (lt4 (by go_simp; rfl) (by go_simp; rfl) (by go_simp; rfl) (by go_simp; rfl))).mono ?_
      rintro e w1 ⟨rfl, rfl⟩
      rw [h0]
      go_wp2
      go_ret
      exact ⟨ret_int hc.out.symm, by go_grown⟩
theorem istokF (a : Sk) (w : World) : Calls Try.prog 48 #[.agg #[.int .i64 a.i, .int .i64 a.q, .int .i64 a.u, .int .i64 a.v]] w fun e w' => e = .returned (.int .i64 (scode a)) ∧ Below w.heap.size w w' := by
  cases h : (wide a.i && wide a.q && wide a.u && wide a.v) with
  | false => exact istok_0 a h w
  | true => exact istok_1 a h w
set_option maxRecDepth 20000 in
set_option maxHeartbeats 1600000 in
theorem sstok_0 (a : Sk)  (hi : wide a.i = false) (w : World) : Calls Try.prog 27 #[.agg #[.int .i64 a.i, .int .i64 a.q, .int .i64 a.u, .int .i64 a.v]] w fun e w' => e = .returned (.int .i64 (scode a)) ∧ Below w.heap.size w w' := by
  go_enter Try.func27, Try.ntmps27
  have HO : Hid (Below w.heap.size w w) := Below.refl _ _
  go_upto_region 1 with fail
  obtain ⟨v1, hv⟩ : ∃ Xw, Xw = (w.alloc (.cells #[.int .i64 a.i, .int .i64 a.q, .int .i64 a.u, .int .i64 a.v] 36)) := ⟨_, rfl⟩
  rw [← hv]
  have B_p : Hid (Blk v1 (w.heap.size) #[.int .i64 a.i, .int .i64 a.q, .int .i64 a.u, .int .i64 a.v] 36) := by show Blk v1 (w.heap.size) _ _; rw [hv]; exact (Blk.new (by simp))
  have low_p : Hid (w.heap.size ≤ w.heap.size) := by show w.heap.size ≤ w.heap.size; have := HO.out.size; omega
  replace HO : Hid (Below w.heap.size w v1) := by show Below w.heap.size w v1; rw [hv]; exact (below_new HO.out _)
  clear hv
  have p_0 := B_p.out.cell (j := 0) rfl
  have p_1 := B_p.out.cell (j := 1) rfl
  have p_2 := B_p.out.cell (j := 2) rfl
  have p_3 := B_p.out.cell (j := 3) rfl
  have p_f := B_p.out.frozen
  have p_z := B_p.out.lt
  go_wp2_with fail
  refine (swide a.i _).mono ?_
  rintro e v2 ⟨rfl, hb⟩
  clear p_0 p_1 p_2 p_3 p_f p_z
  replace B_p : Hid (Blk v2 (w.heap.size) #[.int .i64 a.i, .int .i64 a.q, .int .i64 a.u, .int .i64 a.v] 36) := by show Blk v2 (w.heap.size) _ _; exact Blk.old B_p.out hb
  replace HO : Hid (Below w.heap.size w v2) := box_step HO.out hb (Nat.le_refl _)
  clear hb
  rw [hi]
  go_wp2
  go_ret
  exact ⟨ret_int (by simp [scode, hi]), HO.out⟩
set_option maxRecDepth 20000 in
set_option maxHeartbeats 1600000 in
theorem sstok_1 (a : Sk) (hi : wide a.i = true) (hq : wide a.q = false) (w : World) : Calls Try.prog 27 #[.agg #[.int .i64 a.i, .int .i64 a.q, .int .i64 a.u, .int .i64 a.v]] w fun e w' => e = .returned (.int .i64 (scode a)) ∧ Below w.heap.size w w' := by
  go_enter Try.func27, Try.ntmps27
  have HO : Hid (Below w.heap.size w w) := Below.refl _ _
  go_upto_region 1 with fail
  obtain ⟨v1, hv⟩ : ∃ Xw, Xw = (w.alloc (.cells #[.int .i64 a.i, .int .i64 a.q, .int .i64 a.u, .int .i64 a.v] 36)) := ⟨_, rfl⟩
  rw [← hv]
  have B_p : Hid (Blk v1 (w.heap.size) #[.int .i64 a.i, .int .i64 a.q, .int .i64 a.u, .int .i64 a.v] 36) := by show Blk v1 (w.heap.size) _ _; rw [hv]; exact (Blk.new (by simp))
  have low_p : Hid (w.heap.size ≤ w.heap.size) := by show w.heap.size ≤ w.heap.size; have := HO.out.size; omega
  replace HO : Hid (Below w.heap.size w v1) := by show Below w.heap.size w v1; rw [hv]; exact (below_new HO.out _)
  clear hv
  have p_0 := B_p.out.cell (j := 0) rfl
  have p_1 := B_p.out.cell (j := 1) rfl
  have p_2 := B_p.out.cell (j := 2) rfl
  have p_3 := B_p.out.cell (j := 3) rfl
  have p_f := B_p.out.frozen
  have p_z := B_p.out.lt
  go_wp2_with fail
  refine (swide a.i _).mono ?_
  rintro e v2 ⟨rfl, hb⟩
  clear p_0 p_1 p_2 p_3 p_f p_z
  replace B_p : Hid (Blk v2 (w.heap.size) #[.int .i64 a.i, .int .i64 a.q, .int .i64 a.u, .int .i64 a.v] 36) := by show Blk v2 (w.heap.size) _ _; exact Blk.old B_p.out hb
  replace HO : Hid (Below w.heap.size w v2) := box_step HO.out hb (Nat.le_refl _)
  clear hb
  rw [hi]
  have p_0 := B_p.out.cell (j := 0) rfl
  have p_1 := B_p.out.cell (j := 1) rfl
  have p_2 := B_p.out.cell (j := 2) rfl
  have p_3 := B_p.out.cell (j := 3) rfl
  have p_f := B_p.out.frozen
  have p_z := B_p.out.lt
  go_wp2_with fail
  refine (swide a.q _).mono ?_
  rintro e v3 ⟨rfl, hb⟩
  clear p_0 p_1 p_2 p_3 p_f p_z
  replace B_p : Hid (Blk v3 (w.heap.size) #[.int .i64 a.i, .int .i64 a.q, .int .i64 a.u, .int .i64 a.v] 36) := by show Blk v3 (w.heap.size) _ _; exact Blk.old B_p.out hb
  replace HO : Hid (Below w.heap.size w v3) := box_step HO.out hb (Nat.le_refl _)
  clear hb
  rw [hq]
  go_wp2
  go_ret
  exact ⟨ret_int (by simp [scode, hi, hq]), HO.out⟩
set_option maxRecDepth 20000 in
set_option maxHeartbeats 1600000 in
theorem sstok_2 (a : Sk) (hi : wide a.i = true) (hq : wide a.q = true) (hu : wide a.u = false) (w : World) : Calls Try.prog 27 #[.agg #[.int .i64 a.i, .int .i64 a.q, .int .i64 a.u, .int .i64 a.v]] w fun e w' => e = .returned (.int .i64 (scode a)) ∧ Below w.heap.size w w' := by
  go_enter Try.func27, Try.ntmps27
  have HO : Hid (Below w.heap.size w w) := Below.refl _ _
  go_upto_region 1 with fail
  obtain ⟨v1, hv⟩ : ∃ Xw, Xw = (w.alloc (.cells #[.int .i64 a.i, .int .i64 a.q, .int .i64 a.u, .int .i64 a.v] 36)) := ⟨_, rfl⟩
  rw [← hv]
  have B_p : Hid (Blk v1 (w.heap.size) #[.int .i64 a.i, .int .i64 a.q, .int .i64 a.u, .int .i64 a.v] 36) := by show Blk v1 (w.heap.size) _ _; rw [hv]; exact (Blk.new (by simp))
  have low_p : Hid (w.heap.size ≤ w.heap.size) := by show w.heap.size ≤ w.heap.size; have := HO.out.size; omega
  replace HO : Hid (Below w.heap.size w v1) := by show Below w.heap.size w v1; rw [hv]; exact (below_new HO.out _)
  clear hv
  have p_0 := B_p.out.cell (j := 0) rfl
  have p_1 := B_p.out.cell (j := 1) rfl
  have p_2 := B_p.out.cell (j := 2) rfl
  have p_3 := B_p.out.cell (j := 3) rfl
  have p_f := B_p.out.frozen
  have p_z := B_p.out.lt
  go_wp2_with fail
  refine (swide a.i _).mono ?_
  rintro e v2 ⟨rfl, hb⟩
  clear p_0 p_1 p_2 p_3 p_f p_z
  replace B_p : Hid (Blk v2 (w.heap.size) #[.int .i64 a.i, .int .i64 a.q, .int .i64 a.u, .int .i64 a.v] 36) := by show Blk v2 (w.heap.size) _ _; exact Blk.old B_p.out hb
  replace HO : Hid (Below w.heap.size w v2) := box_step HO.out hb (Nat.le_refl _)
  clear hb
  rw [hi]
  have p_0 := B_p.out.cell (j := 0) rfl
  have p_1 := B_p.out.cell (j := 1) rfl
  have p_2 := B_p.out.cell (j := 2) rfl
  have p_3 := B_p.out.cell (j := 3) rfl
  have p_f := B_p.out.frozen
  have p_z := B_p.out.lt
  go_wp2_with fail
  refine (swide a.q _).mono ?_
  rintro e v3 ⟨rfl, hb⟩
  clear p_0 p_1 p_2 p_3 p_f p_z
  replace B_p : Hid (Blk v3 (w.heap.size) #[.int .i64 a.i, .int .i64 a.q, .int .i64 a.u, .int .i64 a.v] 36) := by show Blk v3 (w.heap.size) _ _; exact Blk.old B_p.out hb
  replace HO : Hid (Below w.heap.size w v3) := box_step HO.out hb (Nat.le_refl _)
  clear hb
  rw [hq]
  have p_0 := B_p.out.cell (j := 0) rfl
  have p_1 := B_p.out.cell (j := 1) rfl
  have p_2 := B_p.out.cell (j := 2) rfl
  have p_3 := B_p.out.cell (j := 3) rfl
  have p_f := B_p.out.frozen
  have p_z := B_p.out.lt
  go_wp2_with fail
  refine (swide a.u _).mono ?_
  rintro e v4 ⟨rfl, hb⟩
  clear p_0 p_1 p_2 p_3 p_f p_z
  replace B_p : Hid (Blk v4 (w.heap.size) #[.int .i64 a.i, .int .i64 a.q, .int .i64 a.u, .int .i64 a.v] 36) := by show Blk v4 (w.heap.size) _ _; exact Blk.old B_p.out hb
  replace HO : Hid (Below w.heap.size w v4) := box_step HO.out hb (Nat.le_refl _)
  clear hb
  rw [hu]
  go_wp2
  go_ret
  exact ⟨ret_int (by simp [scode, hi, hq, hu]), HO.out⟩
set_option maxRecDepth 20000 in
set_option maxHeartbeats 1600000 in
theorem sstok_3 (a : Sk) (hi : wide a.i = true) (hq : wide a.q = true) (hu : wide a.u = true) (hv : wide a.v = false) (w : World) : Calls Try.prog 27 #[.agg #[.int .i64 a.i, .int .i64 a.q, .int .i64 a.u, .int .i64 a.v]] w fun e w' => e = .returned (.int .i64 (scode a)) ∧ Below w.heap.size w w' := by
  go_enter Try.func27, Try.ntmps27
  have HO : Hid (Below w.heap.size w w) := Below.refl _ _
  go_upto_region 1 with fail
  obtain ⟨v1, hv⟩ : ∃ Xw, Xw = (w.alloc (.cells #[.int .i64 a.i, .int .i64 a.q, .int .i64 a.u, .int .i64 a.v] 36)) := ⟨_, rfl⟩
  rw [← hv]
  have B_p : Hid (Blk v1 (w.heap.size) #[.int .i64 a.i, .int .i64 a.q, .int .i64 a.u, .int .i64 a.v] 36) := by show Blk v1 (w.heap.size) _ _; rw [hv]; exact (Blk.new (by simp))
  have low_p : Hid (w.heap.size ≤ w.heap.size) := by show w.heap.size ≤ w.heap.size; have := HO.out.size; omega
  replace HO : Hid (Below w.heap.size w v1) := by show Below w.heap.size w v1; rw [hv]; exact (below_new HO.out _)
  clear hv
  have p_0 := B_p.out.cell (j := 0) rfl
  have p_1 := B_p.out.cell (j := 1) rfl
  have p_2 := B_p.out.cell (j := 2) rfl
  have p_3 := B_p.out.cell (j := 3) rfl
  have p_f := B_p.out.frozen
  have p_z := B_p.out.lt
  go_wp2_with fail
  refine (swide a.i _).mono ?_
  rintro e v2 ⟨rfl, hb⟩
  clear p_0 p_1 p_2 p_3 p_f p_z
  replace B_p : Hid (Blk v2 (w.heap.size) #[.int .i64 a.i, .int .i64 a.q, .int .i64 a.u, .int .i64 a.v] 36) := by show Blk v2 (w.heap.size) _ _; exact Blk.old B_p.out hb
  replace HO : Hid (Below w.heap.size w v2) := box_step HO.out hb (Nat.le_refl _)
  clear hb
  rw [hi]
  have p_0 := B_p.out.cell (j := 0) rfl
  have p_1 := B_p.out.cell (j := 1) rfl
  have p_2 := B_p.out.cell (j := 2) rfl
  have p_3 := B_p.out.cell (j := 3) rfl
  have p_f := B_p.out.frozen
  have p_z := B_p.out.lt
  go_wp2_with fail
  refine (swide a.q _).mono ?_
  rintro e v3 ⟨rfl, hb⟩
  clear p_0 p_1 p_2 p_3 p_f p_z
  replace B_p : Hid (Blk v3 (w.heap.size) #[.int .i64 a.i, .int .i64 a.q, .int .i64 a.u, .int .i64 a.v] 36) := by show Blk v3 (w.heap.size) _ _; exact Blk.old B_p.out hb
  replace HO : Hid (Below w.heap.size w v3) := box_step HO.out hb (Nat.le_refl _)
  clear hb
  rw [hq]
  have p_0 := B_p.out.cell (j := 0) rfl
  have p_1 := B_p.out.cell (j := 1) rfl
  have p_2 := B_p.out.cell (j := 2) rfl
  have p_3 := B_p.out.cell (j := 3) rfl
  have p_f := B_p.out.frozen
  have p_z := B_p.out.lt
  go_wp2_with fail
  refine (swide a.u _).mono ?_
  rintro e v4 ⟨rfl, hb⟩
  clear p_0 p_1 p_2 p_3 p_f p_z
  replace B_p : Hid (Blk v4 (w.heap.size) #[.int .i64 a.i, .int .i64 a.q, .int .i64 a.u, .int .i64 a.v] 36) := by show Blk v4 (w.heap.size) _ _; exact Blk.old B_p.out hb
  replace HO : Hid (Below w.heap.size w v4) := box_step HO.out hb (Nat.le_refl _)
  clear hb
  rw [hu]
  have p_0 := B_p.out.cell (j := 0) rfl
  have p_1 := B_p.out.cell (j := 1) rfl
  have p_2 := B_p.out.cell (j := 2) rfl
  have p_3 := B_p.out.cell (j := 3) rfl
  have p_f := B_p.out.frozen
  have p_z := B_p.out.lt
  go_wp2_with fail
  refine (swide a.v _).mono ?_
  rintro e v5 ⟨rfl, hb⟩
  clear p_0 p_1 p_2 p_3 p_f p_z
  replace B_p : Hid (Blk v5 (w.heap.size) #[.int .i64 a.i, .int .i64 a.q, .int .i64 a.u, .int .i64 a.v] 36) := by show Blk v5 (w.heap.size) _ _; exact Blk.old B_p.out hb
  replace HO : Hid (Below w.heap.size w v5) := box_step HO.out hb (Nat.le_refl _)
  clear hb
  rw [hv]
  go_wp2
  go_ret
  exact ⟨ret_int (by simp [scode, hi, hq, hu, hv]), HO.out⟩
set_option maxRecDepth 20000 in
set_option maxHeartbeats 1600000 in
theorem sstok_a (a : Sk) (I2 Q2 U2 V2 D1 D2 : Int) (hi : wide a.i = true) (hq : wide a.q = true) (hu : wide a.u = true) (hv : wide a.v = true) (wI : wrap64 (a.i * a.i) = I2) (wQ : wrap64 (a.q * a.q) = Q2) (wU : wrap64 (a.u * a.u) = U2) (wV : wrap64 (a.v * a.v) = V2) (wD1 : wrap64 (I2 - Q2) = D1) (wD2 : wrap64 (D1 - U2) = D2) (n0 : a.i < 0) (hc : Hid (scode a = 1)) (w : World) : Calls Try.prog 27 #[.agg #[.int .i64 a.i, .int .i64 a.q, .int .i64 a.u, .int .i64 a.v]] w fun e w' => e = .returned (.int .i64 (scode a)) ∧ Below w.heap.size w w' := by
  go_enter Try.func27, Try.ntmps27
  have HO : Hid (Below w.heap.size w w) := Below.refl _ _
  go_upto_region 1 with fail
  obtain ⟨v1, hv⟩ : ∃ Xw, Xw = (w.alloc (.cells #[.int .i64 a.i, .int .i64 a.q, .int .i64 a.u, .int .i64 a.v] 36)) := ⟨_, rfl⟩
  rw [← hv]
  have B_p : Hid (Blk v1 (w.heap.size) #[.int .i64 a.i, .int .i64 a.q, .int .i64 a.u, .int .i64 a.v] 36) := by show Blk v1 (w.heap.size) _ _; rw [hv]; exact (Blk.new (by simp))
  have low_p : Hid (w.heap.size ≤ w.heap.size) := by show w.heap.size ≤ w.heap.size; have := HO.out.size; omega
  replace HO : Hid (Below w.heap.size w v1) := by show Below w.heap.size w v1; rw [hv]; exact (below_new HO.out _)
  clear hv
  have p_0 := B_p.out.cell (j := 0) rfl
  have p_1 := B_p.out.cell (j := 1) rfl
  have p_2 := B_p.out.cell (j := 2) rfl
  have p_3 := B_p.out.cell (j := 3) rfl
  have p_f := B_p.out.frozen
  have p_z := B_p.out.lt
  go_wp2_with fail
  refine (swide a.i _).mono ?_
  rintro e v2 ⟨rfl, hb⟩
  clear p_0 p_1 p_2 p_3 p_f p_z
  replace B_p : Hid (Blk v2 (w.heap.size) #[.int .i64 a.i, .int .i64 a.q, .int .i64 a.u, .int .i64 a.v] 36) := by show Blk v2 (w.heap.size) _ _; exact Blk.old B_p.out hb
  replace HO : Hid (Below w.heap.size w v2) := box_step HO.out hb (Nat.le_refl _)
  clear hb
  rw [hi]
  have p_0 := B_p.out.cell (j := 0) rfl
  have p_1 := B_p.out.cell (j := 1) rfl
  have p_2 := B_p.out.cell (j := 2) rfl
  have p_3 := B_p.out.cell (j := 3) rfl
  have p_f := B_p.out.frozen
  have p_z := B_p.out.lt
  go_wp2_with fail
  refine (swide a.q _).mono ?_
  rintro e v3 ⟨rfl, hb⟩
  clear p_0 p_1 p_2 p_3 p_f p_z
  replace B_p : Hid (Blk v3 (w.heap.size) #[.int .i64 a.i, .int .i64 a.q, .int .i64 a.u, .int .i64 a.v] 36) := by show Blk v3 (w.heap.size) _ _; exact Blk.old B_p.out hb
  replace HO : Hid (Below w.heap.size w v3) := box_step HO.out hb (Nat.le_refl _)
  clear hb
  rw [hq]
  have p_0 := B_p.out.cell (j := 0) rfl
  have p_1 := B_p.out.cell (j := 1) rfl
  have p_2 := B_p.out.cell (j := 2) rfl
  have p_3 := B_p.out.cell (j := 3) rfl
  have p_f := B_p.out.frozen
  have p_z := B_p.out.lt
  go_wp2_with fail
  refine (swide a.u _).mono ?_
  rintro e v4 ⟨rfl, hb⟩
  clear p_0 p_1 p_2 p_3 p_f p_z
  replace B_p : Hid (Blk v4 (w.heap.size) #[.int .i64 a.i, .int .i64 a.q, .int .i64 a.u, .int .i64 a.v] 36) := by show Blk v4 (w.heap.size) _ _; exact Blk.old B_p.out hb
  replace HO : Hid (Below w.heap.size w v4) := box_step HO.out hb (Nat.le_refl _)
  clear hb
  rw [hu]
  have p_0 := B_p.out.cell (j := 0) rfl
  have p_1 := B_p.out.cell (j := 1) rfl
  have p_2 := B_p.out.cell (j := 2) rfl
  have p_3 := B_p.out.cell (j := 3) rfl
  have p_f := B_p.out.frozen
  have p_z := B_p.out.lt
  go_wp2_with fail
  refine (swide a.v _).mono ?_
  rintro e v5 ⟨rfl, hb⟩
  clear p_0 p_1 p_2 p_3 p_f p_z
  replace B_p : Hid (Blk v5 (w.heap.size) #[.int .i64 a.i, .int .i64 a.q, .int .i64 a.u, .int .i64 a.v] 36) := by show Blk v5 (w.heap.size) _ _; exact Blk.old B_p.out hb
  replace HO : Hid (Below w.heap.size w v5) := box_step HO.out hb (Nat.le_refl _)
  clear hb
  rw [hv]
  have p_0 := B_p.out.cell (j := 0) rfl
  have p_1 := B_p.out.cell (j := 1) rfl
  have p_2 := B_p.out.cell (j := 2) rfl
  have p_3 := B_p.out.cell (j := 3) rfl
  have p_f := B_p.out.frozen
  have p_z := B_p.out.lt
  go_wp2
  go_ret
  exact ⟨ret_int hc.out.symm, HO.out⟩
set_option maxRecDepth 20000 in
set_option maxHeartbeats 1600000 in
theorem sstok_b (a : Sk) (I2 Q2 U2 V2 D1 D2 : Int) (hi : wide a.i = true) (hq : wide a.q = true) (hu : wide a.u = true) (hv : wide a.v = true) (wI : wrap64 (a.i * a.i) = I2) (wQ : wrap64 (a.q * a.q) = Q2) (wU : wrap64 (a.u * a.u) = U2) (wV : wrap64 (a.v * a.v) = V2) (wD1 : wrap64 (I2 - Q2) = D1) (wD2 : wrap64 (D1 - U2) = D2) (n0 : 0 ≤ a.i) (n1 : I2 < Q2) (hc : Hid (scode a = 1)) (w : World) : Calls Try.prog 27 #[.agg #[.int .i64 a.i, .int .i64 a.q, .int .i64 a.u, .int .i64 a.v]] w fun e w' => e = .returned (.int .i64 (scode a)) ∧ Below w.heap.size w w' := by
  go_enter Try.func27, Try.ntmps27
  have HO : Hid (Below w.heap.size w w) := Below.refl _ _
  go_upto_region 1 with fail
  obtain ⟨v1, hv⟩ : ∃ Xw, Xw = (w.alloc (.cells #[.int .i64 a.i, .int .i64 a.q, .int .i64 a.u, .int .i64 a.v] 36)) := ⟨_, rfl⟩
  rw [← hv]
  have B_p : Hid (Blk v1 (w.heap.size) #[.int .i64 a.i, .int .i64 a.q, .int .i64 a.u, .int .i64 a.v] 36) := by show Blk v1 (w.heap.size) _ _; rw [hv]; exact (Blk.new (by simp))
  have low_p : Hid (w.heap.size ≤ w.heap.size) := by show w.heap.size ≤ w.heap.size; have := HO.out.size; omega
  replace HO : Hid (Below w.heap.size w v1) := by show Below w.heap.size w v1; rw [hv]; exact (below_new HO.out _)
  clear hv
  have p_0 := B_p.out.cell (j := 0) rfl
  have p_1 := B_p.out.cell (j := 1) rfl
  have p_2 := B_p.out.cell (j := 2) rfl
  have p_3 := B_p.out.cell (j := 3) rfl
  have p_f := B_p.out.frozen
  have p_z := B_p.out.lt
  go_wp2_with fail
  refine (swide a.i _).mono ?_
  rintro e v2 ⟨rfl, hb⟩
  clear p_0 p_1 p_2 p_3 p_f p_z
  replace B_p : Hid (Blk v2 (w.heap.size) #[.int .i64 a.i, .int .i64 a.q, .int .i64 a.u, .int .i64 a.v] 36) := by show Blk v2 (w.heap.size) _ _; exact Blk.old B_p.out hb
  replace HO : Hid (Below w.heap.size w v2) := box_step HO.out hb (Nat.le_refl _)
  clear hb
  rw [hi]
  have p_0 := B_p.out.cell (j := 0) rfl
  have p_1 := B_p.out.cell (j := 1) rfl
  have p_2 := B_p.out.cell (j := 2) rfl
  have p_3 := B_p.out.cell (j := 3) rfl
  have p_f := B_p.out.frozen
  have p_z := B_p.out.lt
  go_wp2_with fail
  refine (swide a.q _).mono ?_
  rintro e v3 ⟨rfl, hb⟩
  clear p_0 p_1 p_2 p_3 p_f p_z
  replace B_p : Hid (Blk v3 (w.heap.size) #[.int .i64 a.i, .int .i64 a.q, .int .i64 a.u, .int .i64 a.v] 36) := by show Blk v3 (w.heap.size) _ _; exact Blk.old B_p.out hb
  replace HO : Hid (Below w.heap.size w v3) := box_step HO.out hb (Nat.le_refl _)
  clear hb
  rw [hq]
  have p_0 := B_p.out.cell (j := 0) rfl
  have p_1 := B_p.out.cell (j := 1) rfl
  have p_2 := B_p.out.cell (j := 2) rfl
  have p_3 := B_p.out.cell (j := 3) rfl
  have p_f := B_p.out.frozen
  have p_z := B_p.out.lt
  go_wp2_with fail
  refine (swide a.u _).mono ?_
  rintro e v4 ⟨rfl, hb⟩
  clear p_0 p_1 p_2 p_3 p_f p_z
  replace B_p : Hid (Blk v4 (w.heap.size) #[.int .i64 a.i, .int .i64 a.q, .int .i64 a.u, .int .i64 a.v] 36) := by show Blk v4 (w.heap.size) _ _; exact Blk.old B_p.out hb
  replace HO : Hid (Below w.heap.size w v4) := box_step HO.out hb (Nat.le_refl _)
  clear hb
  rw [hu]
  have p_0 := B_p.out.cell (j := 0) rfl
  have p_1 := B_p.out.cell (j := 1) rfl
  have p_2 := B_p.out.cell (j := 2) rfl
  have p_3 := B_p.out.cell (j := 3) rfl
  have p_f := B_p.out.frozen
  have p_z := B_p.out.lt
  go_wp2_with fail
  refine (swide a.v _).mono ?_
  rintro e v5 ⟨rfl, hb⟩
  clear p_0 p_1 p_2 p_3 p_f p_z
  replace B_p : Hid (Blk v5 (w.heap.size) #[.int .i64 a.i, .int .i64 a.q, .int .i64 a.u, .int .i64 a.v] 36) := by show Blk v5 (w.heap.size) _ _; exact Blk.old B_p.out hb
  replace HO : Hid (Below w.heap.size w v5) := box_step HO.out hb (Nat.le_refl _)
  clear hb
  rw [hv]
  have p_0 := B_p.out.cell (j := 0) rfl
  have p_1 := B_p.out.cell (j := 1) rfl
  have p_2 := B_p.out.cell (j := 2) rfl
  have p_3 := B_p.out.cell (j := 3) rfl
  have p_f := B_p.out.frozen
  have p_z := B_p.out.lt
  go_wp2
  go_ret
  exact ⟨ret_int hc.out.symm, HO.out⟩
set_option maxRecDepth 20000 in
set_option maxHeartbeats 1600000 in
theorem sstok_c (a : Sk) (I2 Q2 U2 V2 D1 D2 : Int) (hi : wide a.i = true) (hq : wide a.q = true) (hu : wide a.u = true) (hv : wide a.v = true) (wI : wrap64 (a.i * a.i) = I2) (wQ : wrap64 (a.q * a.q) = Q2) (wU : wrap64 (a.u * a.u) = U2) (wV : wrap64 (a.v * a.v) = V2) (wD1 : wrap64 (I2 - Q2) = D1) (wD2 : wrap64 (D1 - U2) = D2) (n0 : 0 ≤ a.i) (n1 : Q2 ≤ I2) (n2 : D1 < U2) (hc : Hid (scode a = 1)) (w : World) : Calls Try.prog 27 #[.agg #[.int .i64 a.i, .int .i64 a.q, .int .i64 a.u, .int .i64 a.v]] w fun e w' => e = .returned (.int .i64 (scode a)) ∧ Below w.heap.size w w' := by
  go_enter Try.func27, Try.ntmps27
  have HO : Hid (Below w.heap.size w w) := Below.refl _ _
  go_upto_region 1 with fail
  obtain ⟨v1, hv⟩ : ∃ Xw, Xw = (w.alloc (.cells #[.int .i64 a.i, .int .i64 a.q, .int .i64 a.u, .int .i64 a.v] 36)) := ⟨_, rfl⟩
  rw [← hv]
  have B_p : Hid (Blk v1 (w.heap.size) #[.int .i64 a.i, .int .i64 a.q, .int .i64 a.u, .int .i64 a.v] 36) := by show Blk v1 (w.heap.size) _ _; rw [hv]; exact (Blk.new (by simp))
  have low_p : Hid (w.heap.size ≤ w.heap.size) := by show w.heap.size ≤ w.heap.size; have := HO.out.size; omega
  replace HO : Hid (Below w.heap.size w v1) := by show Below w.heap.size w v1; rw [hv]; exact (below_new HO.out _)
  clear hv
  have p_0 := B_p.out.cell (j := 0) rfl
  have p_1 := B_p.out.cell (j := 1) rfl
  have p_2 := B_p.out.cell (j := 2) rfl
  have p_3 := B_p.out.cell (j := 3) rfl
  have p_f := B_p.out.frozen
  have p_z := B_p.out.lt
  go_wp2_with fail
  refine (swide a.i _).mono ?_
  rintro e v2 ⟨rfl, hb⟩
  clear p_0 p_1 p_2 p_3 p_f p_z
  replace B_p : Hid (Blk v2 (w.heap.size) #[.int .i64 a.i, .int .i64 a.q, .int .i64 a.u, .int .i64 a.v] 36) := by show Blk v2 (w.heap.size) _ _; exact Blk.old B_p.out hb
  replace HO : Hid (Below w.heap.size w v2) := box_step HO.out hb (Nat.le_refl _)
  clear hb
  rw [hi]
  have p_0 := B_p.out.cell (j := 0) rfl
  have p_1 := B_p.out.cell (j := 1) rfl
  have p_2 := B_p.out.cell (j := 2) rfl
  have p_3 := B_p.out.cell (j := 3) rfl
  have p_f := B_p.out.frozen
  have p_z := B_p.out.lt
  go_wp2_with fail
  refine (swide a.q _).mono ?_
  rintro e v3 ⟨rfl, hb⟩
  clear p_0 p_1 p_2 p_3 p_f p_z
  replace B_p : Hid (Blk v3 (w.heap.size) #[.int .i64 a.i, .int .i64 a.q, .int .i64 a.u, .int .i64 a.v] 36) := by show Blk v3 (w.heap.size) _ _; exact Blk.old B_p.out hb
  replace HO : Hid (Below w.heap.size w v3) := box_step HO.out hb (Nat.le_refl _)
  clear hb
  rw [hq]
  have p_0 := B_p.out.cell (j := 0) rfl
  have p_1 := B_p.out.cell (j := 1) rfl
  have p_2 := B_p.out.cell (j := 2) rfl
  have p_3 := B_p.out.cell (j := 3) rfl
  have p_f := B_p.out.frozen
  have p_z := B_p.out.lt
  go_wp2_with fail
  refine (swide a.u _).mono ?_
  rintro e v4 ⟨rfl, hb⟩
  clear p_0 p_1 p_2 p_3 p_f p_z
  replace B_p : Hid (Blk v4 (w.heap.size) #[.int .i64 a.i, .int .i64 a.q, .int .i64 a.u, .int .i64 a.v] 36) := by show Blk v4 (w.heap.size) _ _; exact Blk.old B_p.out hb
  replace HO : Hid (Below w.heap.size w v4) := box_step HO.out hb (Nat.le_refl _)
  clear hb
  rw [hu]
  have p_0 := B_p.out.cell (j := 0) rfl
  have p_1 := B_p.out.cell (j := 1) rfl
  have p_2 := B_p.out.cell (j := 2) rfl
  have p_3 := B_p.out.cell (j := 3) rfl
  have p_f := B_p.out.frozen
  have p_z := B_p.out.lt
  go_wp2_with fail
  refine (swide a.v _).mono ?_
  rintro e v5 ⟨rfl, hb⟩
  clear p_0 p_1 p_2 p_3 p_f p_z
  replace B_p : Hid (Blk v5 (w.heap.size) #[.int .i64 a.i, .int .i64 a.q, .int .i64 a.u, .int .i64 a.v] 36) := by show Blk v5 (w.heap.size) _ _; exact Blk.old B_p.out hb
  replace HO : Hid (Below w.heap.size w v5) := box_step HO.out hb (Nat.le_refl _)
  clear hb
  rw [hv]
  have p_0 := B_p.out.cell (j := 0) rfl
  have p_1 := B_p.out.cell (j := 1) rfl
  have p_2 := B_p.out.cell (j := 2) rfl
  have p_3 := B_p.out.cell (j := 3) rfl
  have p_f := B_p.out.frozen
  have p_z := B_p.out.lt
  go_wp2
  go_ret
  exact ⟨ret_int hc.out.symm, HO.out⟩
set_option maxRecDepth 20000 in
set_option maxHeartbeats 1600000 in
theorem sstok_d (a : Sk) (I2 Q2 U2 V2 D1 D2 : Int) (hi : wide a.i = true) (hq : wide a.q = true) (hu : wide a.u = true) (hv : wide a.v = true) (wI : wrap64 (a.i * a.i) = I2) (wQ : wrap64 (a.q * a.q) = Q2) (wU : wrap64 (a.u * a.u) = U2) (wV : wrap64 (a.v * a.v) = V2) (wD1 : wrap64 (I2 - Q2) = D1) (wD2 : wrap64 (D1 - U2) = D2) (n0 : 0 ≤ a.i) (n1 : Q2 ≤ I2) (n2 : U2 ≤ D1) (n3 : D2 < V2) (hc : Hid (scode a = 1)) (w : World) : Calls Try.prog 27 #[.agg #[.int .i64 a.i, .int .i64 a.q, .int .i64 a.u, .int .i64 a.v]] w fun e w' => e = .returned (.int .i64 (scode a)) ∧ Below w.heap.size w w' := by
  go_enter Try.func27, Try.ntmps27
  have HO : Hid (Below w.heap.size w w) := Below.refl _ _
  go_upto_region 1 with fail
  obtain ⟨v1, hv⟩ : ∃ Xw, Xw = (w.alloc (.cells #[.int .i64 a.i, .int .i64 a.q, .int .i64 a.u, .int .i64 a.v] 36)) := ⟨_, rfl⟩
  rw [← hv]
  have B_p : Hid (Blk v1 (w.heap.size) #[.int .i64 a.i, .int .i64 a.q, .int .i64 a.u, .int .i64 a.v] 36) := by show Blk v1 (w.heap.size) _ _; rw [hv]; exact (Blk.new (by simp))
  have low_p : Hid (w.heap.size ≤ w.heap.size) := by show w.heap.size ≤ w.heap.size; have := HO.out.size; omega
  replace HO : Hid (Below w.heap.size w v1) := by show Below w.heap.size w v1; rw [hv]; exact (below_new HO.out _)
  clear hv
  have p_0 := B_p.out.cell (j := 0) rfl
  have p_1 := B_p.out.cell (j := 1) rfl
  have p_2 := B_p.out.cell (j := 2) rfl
  have p_3 := B_p.out.cell (j := 3) rfl
  have p_f := B_p.out.frozen
  have p_z := B_p.out.lt
  go_wp2_with fail
  refine (swide a.i _).mono ?_
  rintro e v2 ⟨rfl, hb⟩
  clear p_0 p_1 p_2 p_3 p_f p_z
  replace B_p : Hid (Blk v2 (w.heap.size) #[.int .i64 a.i, .int .i64 a.q, .int .i64 a.u, .int .i64 a.v] 36) := by show Blk v2 (w.heap.size) _ _; exact Blk.old B_p.out hb
  replace HO : Hid (Below w.heap.size w v2) := box_step HO.out hb (Nat.le_refl _)
  clear hb
  rw [hi]
  have p_0 := B_p.out.cell (j := 0) rfl
  have p_1 := B_p.out.cell (j := 1) rfl
  have p_2 := B_p.out.cell (j := 2) rfl
  have p_3 := B_p.out.cell (j := 3) rfl
  have p_f := B_p.out.frozen
  have p_z := B_p.out.lt
  go_wp2_with fail
  refine (swide a.q _).mono ?_
  rintro e v3 ⟨rfl, hb⟩
  clear p_0 p_1 p_2 p_3 p_f p_z
  replace B_p : Hid (Blk v3 (w.heap.size) #[.int .i64 a.i, .int .i64 a.q, .int .i64 a.u, .int .i64 a.v] 36) := by show Blk v3 (w.heap.size) _ _; exact Blk.old B_p.out hb
  replace HO : Hid (Below w.heap.size w v3) := box_step HO.out hb (Nat.le_refl _)
  clear hb
  rw [hq]
  have p_0 := B_p.out.cell (j := 0) rfl
  have p_1 := B_p.out.cell (j := 1) rfl
  have p_2 := B_p.out.cell (j := 2) rfl
  have p_3 := B_p.out.cell (j := 3) rfl
  have p_f := B_p.out.frozen
  have p_z := B_p.out.lt
  go_wp2_with fail
  refine (swide a.u _).mono ?_
  rintro e v4 ⟨rfl, hb⟩
  clear p_0 p_1 p_2 p_3 p_f p_z
  replace B_p : Hid (Blk v4 (w.heap.size) #[.int .i64 a.i, .int .i64 a.q, .int .i64 a.u, .int .i64 a.v] 36) := by show Blk v4 (w.heap.size) _ _; exact Blk.old B_p.out hb
  replace HO : Hid (Below w.heap.size w v4) := box_step HO.out hb (Nat.le_refl _)
  clear hb
  rw [hu]
  have p_0 := B_p.out.cell (j := 0) rfl
  have p_1 := B_p.out.cell (j := 1) rfl
  have p_2 := B_p.out.cell (j := 2) rfl
  have p_3 := B_p.out.cell (j := 3) rfl
  have p_f := B_p.out.frozen
  have p_z := B_p.out.lt
  go_wp2_with fail
  refine (swide a.v _).mono ?_
  rintro e v5 ⟨rfl, hb⟩
  clear p_0 p_1 p_2 p_3 p_f p_z
  replace B_p : Hid (Blk v5 (w.heap.size) #[.int .i64 a.i, .int .i64 a.q, .int .i64 a.u, .int .i64 a.v] 36) := by show Blk v5 (w.heap.size) _ _; exact Blk.old B_p.out hb
  replace HO : Hid (Below w.heap.size w v5) := box_step HO.out hb (Nat.le_refl _)
  clear hb
  rw [hv]
  have p_0 := B_p.out.cell (j := 0) rfl
  have p_1 := B_p.out.cell (j := 1) rfl
  have p_2 := B_p.out.cell (j := 2) rfl
  have p_3 := B_p.out.cell (j := 3) rfl
  have p_f := B_p.out.frozen
  have p_z := B_p.out.lt
  go_wp2
  go_ret
  exact ⟨ret_int hc.out.symm, HO.out⟩
set_option maxRecDepth 20000 in
set_option maxHeartbeats 1600000 in
theorem sstok_e (a : Sk) (I2 Q2 U2 V2 D1 D2 : Int) (hi : wide a.i = true) (hq : wide a.q = true) (hu : wide a.u = true) (hv : wide a.v = true) (wI : wrap64 (a.i * a.i) = I2) (wQ : wrap64 (a.q * a.q) = Q2) (wU : wrap64 (a.u * a.u) = U2) (wV : wrap64 (a.v * a.v) = V2) (wD1 : wrap64 (I2 - Q2) = D1) (wD2 : wrap64 (D1 - U2) = D2) (n0 : 0 ≤ a.i) (n1 : Q2 ≤ I2) (n2 : U2 ≤ D1) (n3 : V2 ≤ D2) (hc : Hid (scode a = 0)) (w : World) : Calls Try.prog 27 #[.agg #[.int .i64 a.i, .int .i64 a.q, .int .i64 a.u, .int .i64 a.v]] w fun e w' => e = .returned (.int .i64 (scode a)) ∧ Below w.heap.size w w' := by
  go_enter Try.func27, Try.ntmps27
  have HO : Hid (Below w.heap.size w w) := Below.refl _ _
  go_upto_region 1 with fail
  obtain ⟨v1, hv⟩ : ∃ Xw, Xw = (w.alloc (.cells #[.int .i64 a.i, .int .i64 a.q, .int .i64 a.u, .int .i64 a.v] 36)) := ⟨_, rfl⟩
  rw [← hv]
  have B_p : Hid (Blk v1 (w.heap.size) #[.int .i64 a.i, .int .i64 a.q, .int .i64 a.u, .int .i64 a.v] 36) := by show Blk v1 (w.heap.size) _ _; rw [hv]; exact (Blk.new (by simp))
  have low_p : Hid (w.heap.size ≤ w.heap.size) := by show w.heap.size ≤ w.heap.size; have := HO.out.size; omega
  replace HO : Hid (Below w.heap.size w v1) := by show Below w.heap.size w v1; rw [hv]; exact (below_new HO.out _)
  clear hv
  have p_0 := B_p.out.cell (j := 0) rfl
  have p_1 := B_p.out.cell (j := 1) rfl
  have p_2 := B_p.out.cell (j := 2) rfl
  have p_3 := B_p.out.cell (j := 3) rfl
  have p_f := B_p.out.frozen
  have p_z := B_p.out.lt
  go_wp2_with fail
  refine (swide a.i _).mono ?_
  rintro e v2 ⟨rfl, hb⟩
  clear p_0 p_1 p_2 p_3 p_f p_z
  replace B_p : Hid (Blk v2 (w.heap.size) #[.int .i64 a.i, .int .i64 a.q, .int .i64 a.u, .int .i64 a.v] 36) := by show Blk v2 (w.heap.size) _ _; exact Blk.old B_p.out hb
  replace HO : Hid (Below w.heap.size w v2) := box_step HO.out hb (Nat.le_refl _)
  clear hb
  rw [hi]
  have p_0 := B_p.out.cell (j := 0) rfl
  have p_1 := B_p.out.cell (j := 1) rfl
  have p_2 := B_p.out.cell (j := 2) rfl
  have p_3 := B_p.out.cell (j := 3) rfl
  have p_f := B_p.out.frozen
  have p_z := B_p.out.lt
  go_wp2_with fail
  refine (swide a.q _).mono ?_
  rintro e v3 ⟨rfl, hb⟩
  clear p_0 p_1 p_2 p_3 p_f p_z
  replace B_p : Hid (Blk v3 (w.heap.size) #[.int .i64 a.i, .int .i64 a.q, .int .i64 a.u, .int .i64 a.v] 36) := by show Blk v3 (w.heap.size) _ _; exact Blk.old B_p.out hb
  replace HO : Hid (Below w.heap.size w v3) := box_step HO.out hb (Nat.le_refl _)
  clear hb
  rw [hq]
  have p_0 := B_p.out.cell (j := 0) rfl
  have p_1 := B_p.out.cell (j := 1) rfl
  have p_2 := B_p.out.cell (j := 2) rfl
  have p_3 := B_p.out.cell (j := 3) rfl
  have p_f := B_p.out.frozen
  have p_z := B_p.out.lt
  go_wp2_with fail
  refine (swide a.u _).mono ?_
  rintro e v4 ⟨rfl, hb⟩
  clear p_0 p_1 p_2 p_3 p_f p_z
  replace B_p : Hid (Blk v4 (w.heap.size) #[.int .i64 a.i, .int .i64 a.q, .int .i64 a.u, .int .i64 a.v] 36) := by show Blk v4 (w.heap.size) _ _; exact Blk.old B_p.out hb
  replace HO : Hid (Below w.heap.size w v4) := box_step HO.out hb (Nat.le_refl _)
  clear hb
  rw [hu]
  have p_0 := B_p.out.cell (j := 0) rfl
  have p_1 := B_p.out.cell (j := 1) rfl
  have p_2 := B_p.out.cell (j := 2) rfl
  have p_3 := B_p.out.cell (j := 3) rfl
  have p_f := B_p.out.frozen
  have p_z := B_p.out.lt
  go_wp2_with fail
  refine (swide a.v _).mono ?_
  rintro e v5 ⟨rfl, hb⟩
  clear p_0 p_1 p_2 p_3 p_f p_z
  replace B_p : Hid (Blk v5 (w.heap.size) #[.int .i64 a.i, .int .i64 a.q, .int .i64 a.u, .int .i64 a.v] 36) := by show Blk v5 (w.heap.size) _ _; exact Blk.old B_p.out hb
  replace HO : Hid (Below w.heap.size w v5) := box_step HO.out hb (Nat.le_refl _)
  clear hb
  rw [hv]
  have p_0 := B_p.out.cell (j := 0) rfl
  have p_1 := B_p.out.cell (j := 1) rfl
  have p_2 := B_p.out.cell (j := 2) rfl
  have p_3 := B_p.out.cell (j := 3) rfl
  have p_f := B_p.out.frozen
  have p_z := B_p.out.lt
  go_wp2
  go_ret
  exact ⟨ret_int hc.out.symm, HO.out⟩
theorem sstok_4 (a : Sk) (h : (wide a.i && wide a.q && wide a.u && wide a.v) = true) (w : World) : Calls Try.prog 27 #[.agg #[.int .i64 a.i, .int .i64 a.q, .int .i64 a.u, .int .i64 a.v]] w fun e w' => e = .returned (.int .i64 (scode a)) ∧ Below w.heap.size w w' := by
  obtain ⟨hi, hq, hu, hv⟩ : wide a.i = true ∧ wide a.q = true ∧ wide a.u = true ∧ wide a.v = true := by simp only [Bool.and_eq_true] at h; exact ⟨h.1.1.1, h.1.1.2, h.1.2, h.2⟩
  obtain ⟨I2, eI⟩ : ∃ x, x = a.i * a.i := ⟨_, rfl⟩
  obtain ⟨Q2, eQ⟩ : ∃ x, x = a.q * a.q := ⟨_, rfl⟩
  obtain ⟨U2, eU⟩ : ∃ x, x = a.u * a.u := ⟨_, rfl⟩
  obtain ⟨V2, eV⟩ : ∃ x, x = a.v * a.v := ⟨_, rfl⟩
  have bI := wide_sq hi
  have bQ := wide_sq hq
  have bU := wide_sq hu
  have bV := wide_sq hv
  have hs : scode a = if a.i < 0 ∨ I2 < Q2 + U2 + V2 then 1 else 0 := by simp only [scode, h, eI, eQ, eU, eV, if_true]
  rw [← eI] at bI
  rw [← eQ] at bQ
  rw [← eU] at bU
  rw [← eV] at bV
  have wI : wrap64 (a.i * a.i) = I2 := by rw [← eI]; exact w64 (by omega) (by omega)
  have wQ : wrap64 (a.q * a.q) = Q2 := by rw [← eQ]; exact w64 (by omega) (by omega)
  have wU : wrap64 (a.u * a.u) = U2 := by rw [← eU]; exact w64 (by omega) (by omega)
  have wV : wrap64 (a.v * a.v) = V2 := by rw [← eV]; exact w64 (by omega) (by omega)
  clear eI eQ eU eV
  by_cases n0 : a.i < 0
  · exact sstok_a a I2 Q2 U2 V2 _ _ hi hq hu hv wI wQ wU wV rfl rfl n0 (by show _ = _; rw [hs, if_pos (Or.inl n0)]) w
  have e1 : wrap64 (I2 - Q2) = I2 - Q2 := w64 (by omega) (by omega)
  have e2 : wrap64 (I2 - Q2 - U2) = I2 - Q2 - U2 := w64 (by omega) (by omega)
  by_cases n1 : I2 < Q2
  · exact sstok_b a I2 Q2 U2 V2 _ _ hi hq hu hv wI wQ wU wV rfl rfl (by omega) n1 (by show _ = _; rw [hs, if_pos (Or.inr (by omega))]) w
  by_cases n2 : I2 - Q2 < U2
  · exact sstok_c a I2 Q2 U2 V2 _ _ hi hq hu hv wI wQ wU wV e1 rfl (by omega) (by omega) n2 (by show _ = _; rw [hs, if_pos (Or.inr (by omega))]) w
  by_cases n3 : I2 - Q2 - U2 < V2
  · exact sstok_d a I2 Q2 U2 V2 _ _ hi hq hu hv wI wQ wU wV e1 e2 (by omega) (by omega) (by omega) n3 (by show _ = _; rw [hs, if_pos (Or.inr (by omega))]) w
  · exact sstok_e a I2 Q2 U2 V2 _ _ hi hq hu hv wI wQ wU wV e1 e2 (by omega) (by omega) (by omega) (by omega) (by show _ = _; rw [hs, if_neg (by omega)]) w
theorem sstokF (a : Sk) (w : World) : Calls Try.prog 27 #[.agg #[.int .i64 a.i, .int .i64 a.q, .int .i64 a.u, .int .i64 a.v]] w fun e w' => e = .returned (.int .i64 (scode a)) ∧ Below w.heap.size w w' := by
  cases hi : wide a.i with
  | false => exact sstok_0 a hi w
  | true =>
    cases hq : wide a.q with
    | false => exact sstok_1 a hi hq w
    | true =>
      cases hu : wide a.u with
      | false => exact sstok_2 a hi hq hu w
      | true =>
        cases hv : wide a.v with
        | false => exact sstok_3 a hi hq hu hv w
        | true => exact sstok_4 a (by simp [hi, hq, hu, hv]) w
end Go.Proofs.Ytloebnlmeplgbaa
