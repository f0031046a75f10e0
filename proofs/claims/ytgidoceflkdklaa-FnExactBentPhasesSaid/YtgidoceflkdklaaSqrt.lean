/- Square roots: contracts of the specification's and the program's. -/
import Derived.Test.YtgidoceflkdklaaRoot
namespace Go.Proofs.Ytgidoceflkdklaa
open Go.RowKit Fl
set_option linter.unusedVariables false
/-- The root of a float, all NaNs being one. -/
def sqC (x : Nat) : Option Nat := (Ieee.double.sqrt x).bind cl
theorem sqrt_nan {x : Nat} (hx : x < 18446744073709551616) (n : ¬ Num x) : Ieee.double.sqrt x = none := by
  unfold Ieee.Format.sqrt
  rw [read_not_num hx n]
  rfl
theorem sqrt_zero {x : Nat} (hx : x < 18446744073709551616) (h : rg x = 0) : Ieee.double.sqrt x = some x := by
  have : x = 0 ∨ x = 9223372036854775808 := by simp only [rg] at h; omega
  rcases this with rfl | rfl <;> decide
theorem sqrt_inf : Ieee.double.sqrt 9218868437227405312 = some 9218868437227405312 := by decide
theorem sqrt_neg {x : Nat} (hx : x < 18446744073709551616) (n : Num x) (h0 : rg x ≠ 0) (hs : sg x = true) : Ieee.double.sqrt x = none := by
  have h1 := split_word hx
  rw [hs] at h1
  unfold Ieee.Format.sqrt
  by_cases hi : rg x = 9218868437227405312
  · rw [hi] at h1
    rw [h1, read_inf]; rfl
  · have hr : rg x < 9218868437227405312 := by unfold Num at n; simp only [rg] at hi ⊢; omega
    rw [h1, read_word true hr]
    have := mg_pos (r := rg x) (by omega)
    simp only [Ieee.Datum.root]
    rw [if_neg (by omega)]
    rfl
theorem sqrt67 {x v : Nat} (h : Ieee.double.sqrt x = some v) (w : World) : (callFunc 103 #[.float .f64 x]).run Try.prog w = .ok (.value (.float .f64 v)) w := by
  rw [run_callFunc_extern Try.func103 (by kernel_rfl) (by kernel_rfl) (by kernel_rfl) (e := Extern.MathSqrt.sqrt) (by kernel_rfl)]
  have h' : FloatKind.f64.format.sqrt x = some v := h
  show (Sem.run Try.prog (match FloatKind.f64.format.sqrt x with
    | some r => pure (Value.float .f64 r)
    | none => do pure (Value.float .f64 (← choose (.nanBits .f64 x x)))) w).andThen _ = _
  rw [h']
  rfl
theorem sqrt67_none {x : Nat} (h : Ieee.double.sqrt x = none) (w : World) : (callFunc 103 #[.float .f64 x]).run Try.prog w = .ok (.value (.float .f64 (nanAt w x x))) w.drew := by
  rw [run_callFunc_extern Try.func103 (by kernel_rfl) (by kernel_rfl) (by kernel_rfl) (e := Extern.MathSqrt.sqrt) (by kernel_rfl)]
  have h' : FloatKind.f64.format.sqrt x = none := h
  show (Sem.run Try.prog (match FloatKind.f64.format.sqrt x with
    | some r => pure (Value.float .f64 r)
    | none => do pure (Value.float .f64 (← choose (.nanBits .f64 x x)))) w).andThen _ = _
  rw [h']
  simp [nanAt, Question.forced, Result.andThen]
theorem mSqrt_some {x v : Nat} (h : Ieee.double.sqrt x = some v) (w : World) : Calls Try.prog 102 #[.float .f64 x] w fun e w' => e = .returned (.float .f64 v) ∧ w = w' := by
  have h1 := sqrt67 h
  clear h
  go_enter Try.func102, Try.ntmps102
  go_wp2
  go_ret
  exact ⟨rfl, rfl⟩
theorem mSqrt_none {x : Nat} (h : Ieee.double.sqrt x = none) (w : World) : Calls Try.prog 102 #[.float .f64 x] w fun e w' => e = .returned (.float .f64 (nanAt w x x)) ∧ w.drew = w' := by
  have h1 := sqrt67_none h
  clear h
  go_enter Try.func102, Try.ntmps102
  go_wp2
  go_ret
  exact ⟨rfl, rfl⟩
theorem iSqrt_some {x v : Nat} (h : Ieee.double.sqrt x = some v) (w : World) : Calls Try.prog 101 #[.float .f64 x] w fun e w' => e = .returned (.float .f64 v) ∧ w = w' := by
  go_enter Try.func101, Try.ntmps101
  go_wp2_with fail
  refine (mSqrt_some h _).mono ?_
  rintro e w1 ⟨rfl, rfl⟩
  clear h
  go_wp2
  go_ret
  exact ⟨rfl, rfl⟩
theorem iSqrt_none {x : Nat} (h : Ieee.double.sqrt x = none) (w : World) : Calls Try.prog 101 #[.float .f64 x] w fun e w' => e = .returned (.float .f64 (nanAt w x x)) ∧ w.drew = w' := by
  go_enter Try.func101, Try.ntmps101
  go_wp2_with fail
  refine (mSqrt_none h _).mono ?_
  rintro e w1 ⟨rfl, rfl⟩
  clear h
  go_wp2
  go_ret
  exact ⟨rfl, rfl⟩
theorem sqrt_lt {x v : Nat} (h : Ieee.double.sqrt x = some v) : v < 18446744073709551616 := by
  have := Ieee.double.sqrt_lt h
  exact this
theorem iSqrt_any (x : Nat) (w : World) : Calls Try.prog 101 #[.float .f64 x] w fun e w' => ∃ v q, e = .returned (.float .f64 v) ∧ v < 18446744073709551616 ∧ cl v = sqC x ∧ w' = w.drewN q := by
  cases h : Ieee.double.sqrt x with
  | some v =>
    refine (iSqrt_some h w).mono ?_
    rintro e w' ⟨rfl, rfl⟩
    exact ⟨v, 0, rfl, sqrt_lt h, by simp [sqC, h], rfl⟩
  | none =>
    refine (iSqrt_none h w).mono ?_
    rintro e w' ⟨rfl, rfl⟩
    exact ⟨_, 1, rfl, nanAt_lt _ _ _, by rw [cl_nan (nanAt_nan _ _ _)]; simp [sqC, h], rfl⟩
theorem sSqrt_nan {x : Nat} (H : Says 94 x true) (w : World) : Calls Try.prog 85 #[.float .f64 x] w fun e w' => e = .returned (.float .f64 x) ∧ w = w' := by
  go_enter Try.func85, Try.ntmps85
  go_wp2_with fail
  refine (H _).mono ?_
  rintro e w1 ⟨rfl, rfl⟩
  go_wp2
  go_ret
  exact ⟨rfl, rfl⟩
theorem sSqrt_zero {x : Nat} (H : Says 94 x false) (ho : FloatKind.f64.format.order x 0 = some .eq) (w : World) : Calls Try.prog 85 #[.float .f64 x] w fun e w' => e = .returned (.float .f64 x) ∧ w = w' := by
  go_enter Try.func85, Try.ntmps85
  go_wp2_with fail
  refine (H _).mono ?_
  rintro e w1 ⟨rfl, rfl⟩
  go_wp2
  go_ret
  exact ⟨rfl, rfl⟩
theorem sSqrt_neg {x : Nat} (H : Says 94 x false) (ho : FloatKind.f64.format.order x 0 = some .lt) (w : World) : Calls Try.prog 85 #[.float .f64 x] w fun e w' => ∃ v q, e = .returned (.float .f64 v) ∧ v < 18446744073709551616 ∧ cl v = none ∧ w' = w.drewN q := by
  have HO : Hid (∀ w, Calls Try.prog 95 #[.int .u64 9221120237041090560] w fun e w' => ∃ x q, e = .returned (.float .f64 x) ∧ x < 18446744073709551616 ∧ cl x = none ∧ w' = w.drewN q) := fun w => by
    have := sOf_any (b := 9221120237041090560) (by omega) w
    rw [cl_nan (by decide)] at this
    exact this
  go_enter Try.func85, Try.ntmps85
  go_wp2_with fail
  refine (H _).mono ?_
  rintro e w1 ⟨rfl, rfl⟩
  clear H
  go_wp2_with fail
  refine (HO.out _).mono ?_
  rintro e w1 ⟨v, q, rfl, hv, hc, rfl⟩
  have HC : Hid (cl v = none) := hc
  clear hc ho
  go_wp2
  go_ret
  exact ⟨v, q, rfl, hv, HC.out, rfl⟩
theorem sSqrt_inf {x : Nat} (H : Says 94 x false) (ho : FloatKind.f64.format.order x 0 = some .gt) (G : Says 96 x true) (w : World) : Calls Try.prog 85 #[.float .f64 x] w fun e w' => e = .returned (.float .f64 x) ∧ w = w' := by
  go_enter Try.func85, Try.ntmps85
  go_wp2_with fail
  refine (H _).mono ?_
  rintro e w1 ⟨rfl, rfl⟩
  go_wp2_with fail
  refine (G _).mono ?_
  rintro e w1 ⟨rfl, rfl⟩
  go_wp2
  go_ret
  exact ⟨rfl, rfl⟩
theorem even_t {e : Int} (h : e % 2 = 0) : e.tmod 2 = 0 ∧ e.tdiv 2 = e / 2 := by
  obtain ⟨k, rfl⟩ : ∃ k, e = 2 * k := ⟨e / 2, by omega⟩
  exact ⟨Int.mul_tmod_right 2 k, by rw [Int.mul_tdiv_cancel_left k (by omega)]; omega⟩
theorem odd_t {e : Int} (h : ¬ e % 2 = 0) : e.tmod 2 ≠ 0 := by
  intro k
  have := Int.mul_tdiv_add_tmod e 2
  omega
/-- What comes behind the loop: the root of m1 * 2^54 and its place. -/
theorem tail_fits {x : Nat} (h0 : 0 < x) (hr : x < 9218868437227405312) {c m1 : Nat} {e1 : Int} (hm : m1 = mg x * 2 ^ c) (he : e1 = pl x - c) (h1 : 4503599627370496 ≤ m1) (h2 : m1 + 2 ≤ 18014398509481984) (hev : e1 % 2 = 0) (hc : c ≤ 54) {R : Nat}
    (hR : R * R ≤ m1 * 18014398509481984) (hR' : m1 * 18014398509481984 < (R + 1) * (R + 1)) {v : Nat} (hv : Ieee.double.sqrt x = some v) (w : World) :
    Calls Try.prog 98 #[.float .f64 (floatOfInt .f64 (((R + 1) / 2 : Nat) : Int)), .int .i64 (e1 / 2 - 26)] w fun e w' => e = .returned (.float .f64 v) ∧ w = w' := by
  obtain ⟨b1, b2⟩ := half_bounds h1 h2 hR hR'
  have hp := pl_ge x
  have hp2 := pl_le hr
  have hsq := sqrt_word h0 hr hm he h1 h2 hev hR hR'
  rw [dW_false, hv] at hsq
  rw [Option.some.inj hsq]
  exact times_any (floatOfInt_F _) b2 (by omega) (by omega) w
set_option maxHeartbeats 1600000 in
theorem sSqrt_fin {x v : Nat} (H : Says 94 x false) (ho : FloatKind.f64.format.order x 0 = some .gt) (G : Says 96 x false) (h0 : 0 < x) (hr : x < 9218868437227405312) (hv : Ieee.double.sqrt x = some v) (w : World) :
    Calls Try.prog 85 #[.float .f64 x] w fun e w' => e = .returned (.float .f64 v) ∧ w = w' := by
  have hmp := mg_pos h0
  have hml := mg_lt x
  have hp := pl_ge x
  have hp2 := pl_le hr
  obtain ⟨M0, hM0⟩ : ∃ M0 : Int, M0 = (mg x : Nat) := ⟨_, rfl⟩
  obtain ⟨P0, hP0⟩ : ∃ P0 : Int, P0 = pl x := ⟨_, rfl⟩
  have HP : Hid (∀ w, Calls Try.prog 97 #[.float .f64 x] w fun e w' => e = .returned (.tuple #[.int .i64 M0, .int .i64 P0]) ∧ w = w') := fun w => by
    rw [hM0, hP0]; exact parts_all hr w
  have HX : Hid (0 < x ∧ x < 9218868437227405312 ∧ M0 = (mg x : Nat) ∧ P0 = pl x ∧ Ieee.double.sqrt x = some v) := ⟨h0, hr, hM0, hP0, hv⟩
  have m1 : 1 ≤ M0 := by omega
  have m2 : M0 < 9007199254740992 := by omega
  have p1 : -1074 ≤ P0 := by omega
  have p2 : P0 ≤ 971 := by omega
  clear h0 hr hM0 hP0 hv hmp hml hp hp2
  go_enter Try.func85, Try.ntmps85
  go_wp2_with fail
  refine (H _).mono ?_
  rintro e w1 ⟨rfl, rfl⟩
  go_wp2_with fail
  refine (G _).mono ?_
  rintro e w1 ⟨rfl, rfl⟩
  clear H G
  go_wp2_with fail
  refine (HP.out _).mono ?_
  rintro e w1 ⟨rfl, rfl⟩
  clear HP ho
  go_wp2
  go_loopw [3, 4] (fun a b wr => wr = w ∧ ∃ (m e : Int), a = .int .i64 m ∧ b = .int .i64 e ∧ 1 ≤ m ∧ m < 9007199254740992 ∧ -1200 ≤ e ∧ e ≤ 971 ∧ Hid (∃ c : Nat, m = ((mg x * 2 ^ c : Nat) : Int) ∧ e = pl x - c ∧ c ≤ 53)) (fun a _ _ => (9007199254740992 - intOf a).toNat)
  case atStart =>
    refine ⟨rfl, M0, P0, rfl, rfl, m1, m2, by omega, p2, 0, ?_, ?_, by omega⟩
    · rw [HX.out.2.2.1]; simp
    · rw [HX.out.2.2.2.1]; simp
  case round =>
    obtain ⟨rfl, m, e, rfl, rfl, a1, a2, a3, a4, HC⟩ := hrel
    by_cases h : m < 4503599627370496
    · have HC' : Hid (∃ c : Nat, m * 2 = ((mg x * 2 ^ c : Nat) : Int) ∧ e - 1 = pl x - c ∧ c ≤ 53) := by
        obtain ⟨c, c1, c2, c3⟩ := HC.out
        refine ⟨c + 1, ?_, by omega, ?_⟩
        · rw [Nat.pow_succ, ← Nat.mul_assoc]; omega
        · have h1 : 2 ^ c ≤ mg x * 2 ^ c := Nat.le_mul_of_pos_left _ (mg_pos HX.out.1)
          have h2 : 2 ^ c < 2 ^ 52 := by omega
          have := (Nat.pow_lt_pow_iff_right (a := 2) (by omega)).1 h2
          omega
      have a5 : -1200 ≤ e - 1 := by
        obtain ⟨c, c1, c2, c3⟩ := HC'.out
        have := pl_ge x
        omega
      clear HC
      go_wp2
      go_roundw
      case rel => exact ⟨by trivial, m * 2, e - 1, rfl, rfl, by omega, by omega, a5, by omega, HC'⟩
      case measure => simp [intOf]; omega
    · by_cases hev : e % 2 = 0
      · have ht := (even_t hev).1
        have hd := (even_t hev).2
        obtain ⟨m', hm'⟩ : ∃ m' : Nat, m = m' := ⟨(m).toNat, by omega⟩
        have HR' : Hid (∀ w, Calls Try.prog 99 #[.int .i64 (m)] w fun e w' => ∃ R : Nat, e = .returned (.int .i64 R) ∧ R * R ≤ m' * 18014398509481984 ∧ m' * 18014398509481984 < (R + 1) * (R + 1) ∧ w = w') := root_any (m := m') (M := m) (by omega) hm' (by omega) (by omega)
        have HM : Hid (m = m') := hm'
        clear hm'
        go_wp2_with fail
        refine (HR'.out _).mono ?_
        rintro e' w1 ⟨R, rfl, hR, hR', rfl⟩
        have HT : Hid (∀ w, Calls Try.prog 98 #[.float .f64 (floatOfInt .f64 (((R + 1) / 2 : Nat) : Int)), .int .i64 ((e) / 2 - 26)] w fun e w' => e = .returned (.float .f64 v) ∧ w = w') := fun w => by
          obtain ⟨c, c1, c2, c3⟩ := HC.out
          have := HM.out
          exact tail_fits (c := c) (m1 := m') HX.out.1 HX.out.2.1 (by omega) c2 (by omega) (by omega) hev (by omega) hR hR' HX.out.2.2.2.2 w
        obtain ⟨hb1, hb2⟩ := root_bounds (m1 := m') (R := R) (by have := HM.out; omega) (by have := HM.out; omega) hR hR'
        obtain ⟨Z, hZ⟩ : ∃ Z : Int, Z = (R : Int) := ⟨_, rfl⟩
        have hz : ((((R + 1) / 2 : Nat) : Int)) = (Z + 1) / 2 := by omega
        rw [hz] at HT
        rw [← hZ]
        have z1 : 0 ≤ Z := by omega
        have z2 : Z < 18014398509481984 := by omega
        have z3 : (Z + 1).tdiv 2 = (Z + 1) / 2 := Int.tdiv_eq_ediv_of_nonneg (by omega)
        clear HR' hR hR' HM HC hZ hz hb1 hb2 HX
        go_wp2_with fail
        refine (HT.out _).mono ?_
        rintro e' w1 ⟨rfl, rfl⟩
        clear HT
        go_wp2
        go_ret
        exact ⟨rfl, rfl⟩
      · have ht := odd_t hev
        have hd := (even_t (e := e - 1) (by omega)).2
        obtain ⟨m', hm'⟩ : ∃ m' : Nat, m * 2 = m' := ⟨(m * 2).toNat, by omega⟩
        have HR' : Hid (∀ w, Calls Try.prog 99 #[.int .i64 (m * 2)] w fun e w' => ∃ R : Nat, e = .returned (.int .i64 R) ∧ R * R ≤ m' * 18014398509481984 ∧ m' * 18014398509481984 < (R + 1) * (R + 1) ∧ w = w') := root_any (m := m') (M := m * 2) (by omega) hm' (by omega) (by omega)
        have HM : Hid (m * 2 = m') := hm'
        clear hm'
        go_wp2_with fail
        refine (HR'.out _).mono ?_
        rintro e' w1 ⟨R, rfl, hR, hR', rfl⟩
        have HT : Hid (∀ w, Calls Try.prog 98 #[.float .f64 (floatOfInt .f64 (((R + 1) / 2 : Nat) : Int)), .int .i64 ((e - 1) / 2 - 26)] w fun e w' => e = .returned (.float .f64 v) ∧ w = w') := fun w => by
          obtain ⟨c, c1, c2, c3⟩ := HC.out
          have := HM.out
          have e3 : m' = mg x * 2 ^ (c + 1) := by
            rw [Nat.pow_succ, ← Nat.mul_assoc]; omega
          exact tail_fits (c := c + 1) (m1 := m') HX.out.1 HX.out.2.1 e3 (by omega) (by omega) (by omega) (by omega) (by omega) hR hR' HX.out.2.2.2.2 w
        obtain ⟨hb1, hb2⟩ := root_bounds (m1 := m') (R := R) (by have := HM.out; omega) (by have := HM.out; omega) hR hR'
        obtain ⟨Z, hZ⟩ : ∃ Z : Int, Z = (R : Int) := ⟨_, rfl⟩
        have hz : ((((R + 1) / 2 : Nat) : Int)) = (Z + 1) / 2 := by omega
        rw [hz] at HT
        rw [← hZ]
        have z1 : 0 ≤ Z := by omega
        have z2 : Z < 18014398509481984 := by omega
        have z3 : (Z + 1).tdiv 2 = (Z + 1) / 2 := Int.tdiv_eq_ediv_of_nonneg (by omega)
        clear HR' hR hR' HM HC hZ hz hb1 hb2 HX
        go_wp2_with fail
        refine (HT.out _).mono ?_
        rintro e' w1 ⟨rfl, rfl⟩
        clear HT
        go_wp2
        go_ret
        exact ⟨rfl, rfl⟩
theorem isInf_s {x : Nat} (hx : x < 18446744073709551616) (n : Num x) {b : Bool} (h : decide (rg x = 9218868437227405312) = b) : Says 96 x b := fun w => by
  rw [← h]; exact l3IsInf_any hx n w
theorem sSqrt_any {x : Nat} (hx : x < 18446744073709551616) (w : World) : Calls Try.prog 85 #[.float .f64 x] w fun e w' => ∃ v q, e = .returned (.float .f64 v) ∧ v < 18446744073709551616 ∧ cl v = sqC x ∧ w' = w.drewN q := by
  by_cases n : Num x
  · have H := nan_f hx n
    have ho := order_zero hx n
    by_cases h0 : rg x = 0
    · rw [if_pos h0] at ho
      refine (sSqrt_zero H ho w).mono ?_
      rintro e w' ⟨rfl, rfl⟩
      exact ⟨x, 0, rfl, hx, by simp [sqC, sqrt_zero hx h0], rfl⟩
    · rw [if_neg h0] at ho
      by_cases hs : sg x = true
      · rw [if_pos hs] at ho
        have : sqC x = none := by simp [sqC, sqrt_neg hx n h0 hs]
        rw [this]
        exact sSqrt_neg H ho w
      · rw [if_neg hs] at ho
        have hl : x < 9223372036854775808 := by simp only [sg, decide_eq_true_eq] at hs; omega
        by_cases hi : rg x = 9218868437227405312
        · have e : x = 9218868437227405312 := by simp only [rg] at hi; omega
          refine (sSqrt_inf H ho (isInf_s hx n (decide_eq_true hi)) w).mono ?_
          rintro e w' ⟨rfl, rfl⟩
          exact ⟨x, 0, rfl, hx, by rw [sqC, e, sqrt_inf]; rfl, rfl⟩
        · have h00 : 0 < x := by simp only [rg] at h0; omega
          have hr : x < 9218868437227405312 := by unfold Num at n; simp only [rg] at hi; omega
          cases hq : Ieee.double.sqrt x with
          | none =>
            exfalso
            unfold Ieee.Format.sqrt at hq
            rw [← dW_false x, read_word false hr] at hq
            have := mg_pos h00
            simp only [Ieee.Datum.root] at hq
            rw [if_neg (by omega)] at hq
            simp at hq
          | some v =>
            refine (sSqrt_fin H ho (isInf_s hx n (decide_eq_false hi)) h00 hr hq w).mono ?_
            rintro e w' ⟨rfl, rfl⟩
            exact ⟨v, 0, rfl, sqrt_lt hq, by simp [sqC, hq], rfl⟩
  · refine (sSqrt_nan (nan_t hx n) w).mono ?_
    rintro e w' ⟨rfl, rfl⟩
    exact ⟨x, 0, rfl, hx, by rw [cl_nan n]; simp [sqC, sqrt_nan hx n], rfl⟩
end Go.Proofs.Ytgidoceflkdklaa
