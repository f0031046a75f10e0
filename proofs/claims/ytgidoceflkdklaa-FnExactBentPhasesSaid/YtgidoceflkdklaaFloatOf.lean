/- The specification's float of bits: a contract. -/
import Derived.Test.YtgidoceflkdklaaFloatBits
namespace Go.Proofs.Ytgidoceflkdklaa
open Go.RowKit Fl
theorem big_twice : floatBits .mul .f64 9218868437227405311 4611686018427387904 = some 9218868437227405312 := by decide
theorem inf_less : floatBits .sub .f64 9218868437227405312 9218868437227405312 = none := by decide
theorem mask_u64 (i : Nat) (hi : i ≤ 64) (x : Int) (h₀ : 0 ≤ x) (h₁ : x < 2 ^ 64) : bits .and .u64 x (2 ^ i - 1) = x % 2 ^ i := bits_mask .u64 64 (by decide) wraps_u64 i hi x h₀ h₁
set_option maxRecDepth 100000 in
set_option maxHeartbeats 800000 in
theorem sOf_inf0 {B E M : Int} (h1 : B / 9223372036854775808 = 0) (h2 : bits .and .u64 (B / 4503599627370496) 2047 = E) (h3 : bits .and .u64 B 4503599627370495 = M) (hM0 : 0 ≤ M) (hM : M < 4503599627370496) (w : World) (hE : E = 2047) (hm : M = 0) :
    Calls Try.prog 95 #[.int .u64 B] w fun e w' => e = .returned (.float .f64 9218868437227405312) ∧ w = w' := by
  subst hE hm
  have hb := fun t w => run_float_arith (P := Try.prog) w .mul t .f64 _ _ _ big_twice
  go_enter Try.func95, Try.ntmps95
  go_wp2
  go_ret
  exact ⟨rfl, rfl⟩
set_option maxRecDepth 100000 in
set_option maxHeartbeats 800000 in
theorem sOf_nan0 {B E M : Int} (h1 : B / 9223372036854775808 = 0) (h2 : bits .and .u64 (B / 4503599627370496) 2047 = E) (h3 : bits .and .u64 B 4503599627370495 = M) (hM0 : 0 ≤ M) (hM : M < 4503599627370496) (w : World) (hE : E = 2047) (hm : M ≠ 0) :
    Calls Try.prog 95 #[.int .u64 B] w fun e w' => e = .returned (.float .f64 (nanAt w 9218868437227405312 9218868437227405312)) ∧ w.drew = w' := by
  subst hE
  have hb := fun t w => run_float_arith (P := Try.prog) w .mul t .f64 _ _ _ big_twice
  have hd := fun t w => run_float_none (P := Try.prog) w .sub t _ _ (by simp) inf_less
  go_enter Try.func95, Try.ntmps95
  go_wp2
  go_ret
  exact ⟨rfl, rfl⟩
set_option maxRecDepth 100000 in
set_option maxHeartbeats 800000 in
theorem sOf_small0 {B E M : Int} (h1 : B / 9223372036854775808 = 0) (h2 : bits .and .u64 (B / 4503599627370496) 2047 = E) (h3 : bits .and .u64 B 4503599627370495 = M) (hM0 : 0 ≤ M) (hM : M < 4503599627370496) (w : World) (hE : E = 0) {x : Nat} (HF : Hid (∀ w, Calls Try.prog 98 #[.float .f64 (floatOfInt .f64 M), .int .i64 (-1074)] w fun e w' => e = .returned (.float .f64 x) ∧ w = w')) :
    Calls Try.prog 95 #[.int .u64 B] w fun e w' => e = .returned (.float .f64 x) ∧ w = w' := by
  subst hE
  go_enter Try.func95, Try.ntmps95
  go_wp2_with fail
  refine (HF.out _).mono ?_
  rintro e w1 ⟨rfl, rfl⟩
  clear HF
  go_wp2
  go_ret
  exact ⟨rfl, rfl⟩
set_option maxRecDepth 100000 in
set_option maxHeartbeats 800000 in
theorem sOf_great0 {B E M : Int} (h1 : B / 9223372036854775808 = 0) (h2 : bits .and .u64 (B / 4503599627370496) 2047 = E) (h3 : bits .and .u64 B 4503599627370495 = M) (hM0 : 0 ≤ M) (hM : M < 4503599627370496) (w : World) (hE : E ≠ 0) (hE0 : 0 ≤ E) (hE2 : E < 2047) {x : Nat} (HF : Hid (∀ w, Calls Try.prog 98 #[.float .f64 (floatOfInt .f64 (M + 4503599627370496)), .int .i64 (E - 1075)] w fun e w' => e = .returned (.float .f64 x) ∧ w = w')) :
    Calls Try.prog 95 #[.int .u64 B] w fun e w' => e = .returned (.float .f64 x) ∧ w = w' := by
  go_enter Try.func95, Try.ntmps95
  go_wp2_with fail
  refine (HF.out _).mono ?_
  rintro e w1 ⟨rfl, rfl⟩
  clear HF
  go_wp2
  go_ret
  exact ⟨rfl, rfl⟩
set_option maxRecDepth 100000 in
set_option maxHeartbeats 800000 in
theorem sOf_inf1 {B E M : Int} (h1 : B / 9223372036854775808 = 1) (h2 : bits .and .u64 (B / 4503599627370496) 2047 = E) (h3 : bits .and .u64 B 4503599627370495 = M) (hM0 : 0 ≤ M) (hM : M < 4503599627370496) (w : World) (hE : E = 2047) (hm : M = 0) {y : Nat} (hn : ∀ wa, (Op.unary .neg (.float .f64 9218868437227405312)).run Try.prog wa = .ok (.float .f64 y) wa) :
    Calls Try.prog 95 #[.int .u64 B] w fun e w' => e = .returned (.float .f64 y) ∧ w = w' := by
  subst hE hm
  have hb := fun t w => run_float_arith (P := Try.prog) w .mul t .f64 _ _ _ big_twice
  go_enter Try.func95, Try.ntmps95
  go_wp2
  go_ret
  exact ⟨rfl, rfl⟩
set_option maxRecDepth 100000 in
set_option maxHeartbeats 800000 in
theorem sOf_nan1 {B E M : Int} (h1 : B / 9223372036854775808 = 1) (h2 : bits .and .u64 (B / 4503599627370496) 2047 = E) (h3 : bits .and .u64 B 4503599627370495 = M) (hM0 : 0 ≤ M) (hM : M < 4503599627370496) (w : World) (hE : E = 2047) (hm : M ≠ 0) {y : Nat} (hn : ∀ wa, (Op.unary .neg (.float .f64 (nanAt w 9218868437227405312 9218868437227405312))).run Try.prog wa = .ok (.float .f64 y) wa) :
    Calls Try.prog 95 #[.int .u64 B] w fun e w' => e = .returned (.float .f64 y) ∧ w.drew = w' := by
  subst hE
  have hb := fun t w => run_float_arith (P := Try.prog) w .mul t .f64 _ _ _ big_twice
  have hd := fun t w => run_float_none (P := Try.prog) w .sub t _ _ (by simp) inf_less
  go_enter Try.func95, Try.ntmps95
  go_wp2
  go_ret
  exact ⟨rfl, rfl⟩
set_option maxRecDepth 100000 in
set_option maxHeartbeats 800000 in
theorem sOf_small1 {B E M : Int} (h1 : B / 9223372036854775808 = 1) (h2 : bits .and .u64 (B / 4503599627370496) 2047 = E) (h3 : bits .and .u64 B 4503599627370495 = M) (hM0 : 0 ≤ M) (hM : M < 4503599627370496) (w : World) (hE : E = 0) {x : Nat} (HF : Hid (∀ w, Calls Try.prog 98 #[.float .f64 (floatOfInt .f64 M), .int .i64 (-1074)] w fun e w' => e = .returned (.float .f64 x) ∧ w = w')) {y : Nat} (hn : ∀ wa, (Op.unary .neg (.float .f64 x)).run Try.prog wa = .ok (.float .f64 y) wa) :
    Calls Try.prog 95 #[.int .u64 B] w fun e w' => e = .returned (.float .f64 y) ∧ w = w' := by
  subst hE
  go_enter Try.func95, Try.ntmps95
  go_wp2_with fail
  refine (HF.out _).mono ?_
  rintro e w1 ⟨rfl, rfl⟩
  clear HF
  go_wp2
  go_ret
  exact ⟨rfl, rfl⟩
set_option maxRecDepth 100000 in
set_option maxHeartbeats 800000 in
theorem sOf_great1 {B E M : Int} (h1 : B / 9223372036854775808 = 1) (h2 : bits .and .u64 (B / 4503599627370496) 2047 = E) (h3 : bits .and .u64 B 4503599627370495 = M) (hM0 : 0 ≤ M) (hM : M < 4503599627370496) (w : World) (hE : E ≠ 0) (hE0 : 0 ≤ E) (hE2 : E < 2047) {x : Nat} (HF : Hid (∀ w, Calls Try.prog 98 #[.float .f64 (floatOfInt .f64 (M + 4503599627370496)), .int .i64 (E - 1075)] w fun e w' => e = .returned (.float .f64 x) ∧ w = w')) {y : Nat} (hn : ∀ wa, (Op.unary .neg (.float .f64 x)).run Try.prog wa = .ok (.float .f64 y) wa) :
    Calls Try.prog 95 #[.int .u64 B] w fun e w' => e = .returned (.float .f64 y) ∧ w = w' := by
  go_enter Try.func95, Try.ntmps95
  go_wp2_with fail
  refine (HF.out _).mono ?_
  rintro e w1 ⟨rfl, rfl⟩
  clear HF
  go_wp2
  go_ret
  exact ⟨rfl, rfl⟩
theorem neg_run (x : Nat) : ∀ wa, (Op.unary .neg (.float .f64 x)).run Try.prog wa = .ok (.float .f64 (Op.negFloat .f64 x)) wa := fun _ => rfl
theorem neg_lt {x : Nat} (h : x < 18446744073709551616) : Op.negFloat .f64 x < 18446744073709551616 :=
  Nat.xor_lt_two_pow (n := 64) h (by decide)
theorem neg_rg {x : Nat} (hx : x < 18446744073709551616) : rg (Op.negFloat .f64 x) = rg x ∧ sg (Op.negFloat .f64 x) = !sg x := by
  have hr : rg x < 9223372036854775808 := by simp only [rg]; omega
  have h1 := split_word hx
  by_cases hs : sg x = true
  · rw [hs] at h1
    have h2 := neg_true hr
    rw [← h1, dW_false] at h2
    rw [h2, hs]
    simp only [rg, sg]
    refine ⟨by omega, ?_⟩
    simp; omega
  · have hs' : sg x = false := Bool.eq_false_iff.2 hs
    rw [hs'] at h1
    have h2 := neg_false hr
    rw [← h1, dW_true] at h2
    rw [h2, hs']
    simp only [rg, sg]
    refine ⟨by omega, ?_⟩
    simp
theorem neg_num {x : Nat} (hx : x < 18446744073709551616) : Num (Op.negFloat .f64 x) ↔ Num x := by
  have := (neg_rg hx).1
  simp only [rg] at this
  unfold Num
  rw [this]
/-- The specification's FloatOf. -/
theorem sOf_any {b : Nat} (hb : b < 18446744073709551616) (w : World) : Calls Try.prog 95 #[.int .u64 b] w fun e w' => ∃ x q, e = .returned (.float .f64 x) ∧ x < 18446744073709551616 ∧ cl x = cl b ∧ w' = w.drewN q := by
  obtain ⟨E, hE⟩ : ∃ E : Nat, E = b % 9223372036854775808 / 4503599627370496 := ⟨_, rfl⟩
  obtain ⟨M, hM⟩ : ∃ M : Nat, M = b % 4503599627370496 := ⟨_, rfl⟩
  have h2 : bits .and .u64 ((b : Int) / 4503599627370496) 2047 = (E : Int) := by
    have := mask_u64 11 (by omega) ((b : Int) / 4503599627370496) (by omega) (by omega)
    rw [show (2 : Int) ^ 11 - 1 = 2047 by decide] at this
    rw [this, hE]
    omega
  have h3 : bits .and .u64 (b : Int) 4503599627370495 = (M : Int) := by
    have := mask_u64 52 (by omega) (b : Int) (by omega) (by omega)
    rw [show (2 : Int) ^ 52 - 1 = 4503599627370495 by decide] at this
    rw [this, hM]
    omega
  have hM0 : (0 : Int) ≤ M := by omega
  have hM1 : (M : Int) < 4503599627370496 := by omega
  have hrg : rg b = E * 4503599627370496 + M := by simp only [rg]; omega
  have hr63 : rg b < 9223372036854775808 := by simp only [rg]; omega
  have hsplit := split_word hb
  -- what stands ahead of the sign
  have key : ∀ (x : Nat), x = rg b → ∀ w', w' = w → (b < 9223372036854775808 → ∃ x' q, Ending.returned (Value.float .f64 x) = .returned (.float .f64 x') ∧ x' < 18446744073709551616 ∧ cl x' = cl b ∧ w' = w.drewN q) := by
    rintro x rfl w' rfl h
    exact ⟨rg b, 0, rfl, by omega, by rw [show rg b = b by simp only [rg]; omega], rfl⟩
  have keyn : ∀ (x : Nat), x = rg b → ∀ w', w' = w → (9223372036854775808 ≤ b → ∃ x' q, Ending.returned (Value.float .f64 (Op.negFloat .f64 x)) = .returned (.float .f64 x') ∧ x' < 18446744073709551616 ∧ cl x' = cl b ∧ w' = w.drewN q) := by
    rintro x rfl w' rfl h
    have h1 := neg_false hr63
    rw [dW_false, dW_true] at h1
    exact ⟨_, 0, rfl, by rw [h1]; omega, by rw [h1, show 9223372036854775808 + rg b = b by simp only [rg]; omega], rfl⟩
  by_cases c1 : E = 2047
  · by_cases c2 : M = 0
    · have hx : 9218868437227405312 = rg b := by rw [hrg, c1, c2]
      by_cases hs : b < 9223372036854775808
      · refine (sOf_inf0 (by omega) h2 h3 hM0 hM1 w (by omega) (by omega)).mono ?_
        rintro e w' ⟨rfl, rfl⟩
        exact key _ hx _ rfl hs
      · refine (sOf_inf1 (by omega) h2 h3 hM0 hM1 w (by omega) (by omega) (neg_run _)).mono ?_
        rintro e w' ⟨rfl, rfl⟩
        exact keyn _ hx _ rfl (by omega)
    · have nb : ¬ Num b := by
        unfold Num
        simp only [rg] at hrg
        omega
      by_cases hs : b < 9223372036854775808
      · refine (sOf_nan0 (by omega) h2 h3 hM0 hM1 w (by omega) (by omega)).mono ?_
        rintro e w' ⟨rfl, rfl⟩
        exact ⟨_, 1, rfl, nanAt_lt _ _ _, by simp [cl, nb, nanAt_nan], rfl⟩
      · refine (sOf_nan1 (by omega) h2 h3 hM0 hM1 w (by omega) (by omega) (neg_run _)).mono ?_
        rintro e w' ⟨rfl, rfl⟩
        refine ⟨_, 1, rfl, neg_lt (nanAt_lt _ _ _), ?_, rfl⟩
        have : ¬ Num (Op.negFloat .f64 (nanAt w 9218868437227405312 9218868437227405312)) := fun h => nanAt_nan _ _ _ ((neg_num (nanAt_lt _ _ _)).1 h)
        simp only [cl, nb, this, if_false]
  · by_cases c2 : E = 0
    · have hF : floatOfInt .f64 (M : Int) = F false M 0 := floatOfInt_F M
      have hP : F false M (-1074) = rg b := by
        have hl : rg b < 4503599627370496 := by rw [hrg, c2]; omega
        have h1 := F_rg false (r := rg b) (by omega)
        rw [show mg (rg b) = M by unfold mg; rw [if_pos hl, hrg, c2]; omega, show pl (rg b) = -1074 by unfold pl; rw [if_pos hl], dW_false] at h1
        exact h1
      have HF : ∀ w, Calls Try.prog 98 #[.float .f64 (floatOfInt .f64 M), .int .i64 (-1074)] w fun e w' => e = .returned (.float .f64 (F false M (-1074))) ∧ w = w' := fun w => times_any hF (by omega) (by omega) (by omega) w
      by_cases hs : b < 9223372036854775808
      · refine (sOf_small0 (by omega) h2 h3 hM0 hM1 w (by omega) HF).mono ?_
        rintro e w' ⟨rfl, rfl⟩
        exact key _ hP _ rfl hs
      · refine (sOf_small1 (by omega) h2 h3 hM0 hM1 w (by omega) HF (neg_run _)).mono ?_
        rintro e w' ⟨rfl, rfl⟩
        exact keyn _ hP _ rfl (by omega)
    · have hF : floatOfInt .f64 ((M : Int) + 4503599627370496) = F false (M + 4503599627370496) 0 := floatOfInt_F (M + 4503599627370496)
      have hP : F false (M + 4503599627370496) ((E : Int) - 1075) = rg b := by
        have hl : ¬ rg b < 4503599627370496 := by rw [hrg]; omega
        have h1 := F_rg false (r := rg b) (by omega)
        rw [show mg (rg b) = M + 4503599627370496 by unfold mg; rw [if_neg hl, hrg]; omega, show pl (rg b) = (E : Int) - 1075 by unfold pl; rw [if_neg hl, hrg]; omega, dW_false] at h1
        exact h1
      have HF : ∀ w, Calls Try.prog 98 #[.float .f64 (floatOfInt .f64 ((M : Int) + 4503599627370496)), .int .i64 ((E : Int) - 1075)] w fun e w' => e = .returned (.float .f64 (F false (M + 4503599627370496) ((E : Int) - 1075))) ∧ w = w' :=
        fun w => times_any hF (by omega) (by omega) (by omega) w
      by_cases hs : b < 9223372036854775808
      · refine (sOf_great0 (by omega) h2 h3 hM0 hM1 w (by omega) (by omega) (by omega) HF).mono ?_
        rintro e w' ⟨rfl, rfl⟩
        exact key _ hP _ rfl hs
      · refine (sOf_great1 (by omega) h2 h3 hM0 hM1 w (by omega) (by omega) (by omega) HF (neg_run _)).mono ?_
        rintro e w' ⟨rfl, rfl⟩
        exact keyn _ hP _ rfl (by omega)
end Go.Proofs.Ytgidoceflkdklaa
