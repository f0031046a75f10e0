/- Phases: wrapped (wph), the wrapped step from one to another (wst), what the unwrapped row holds (unw); the program's and the specification's wraps and steps. -/
import Derived.Test.YtbagaicbochmnaaMods
namespace Go.Proofs.Ytbagaicbochmnaa
open Go.RowKit
def wph (p : Int) : Int := if 524288 ≤ p % 1048576 then p % 1048576 - 1048576 else p % 1048576
theorem wph_lo (p : Int) : -524288 ≤ wph p := by unfold wph; split <;> omega
theorem wph_hi (p : Int) : wph p < 524288 := by unfold wph; split <;> omega
def wst (a b : Int) : Int := wph (wph b - wph a)
theorem wst_lo (a b : Int) : -524288 ≤ wst a b := wph_lo _
theorem wst_hi (a b : Int) : wst a b < 524288 := wph_hi _
theorem wst_self (a : Int) : wst a a = 0 := by unfold wst; rw [Int.sub_self]; decide
theorem turn_tmod (a : Int) : (a.tmod 1048576 + 1048576).tmod 1048576 = a % 1048576 := by
  have h := tmod_mod a (show (0 : Int) < 1048576 by omega)
  have h1 := tmod_lo a (show (0 : Int) < 1048576 by omega)
  have h2 := tmod_hi a (show (0 : Int) < 1048576 by omega)
  rw [Int.tmod_eq_emod_of_nonneg (by omega)]
  split at h <;> omega
theorem sTurn_any (a : Int) (w : World) : Calls Try.prog 73 #[.int .i64 a] w fun e w' => e = .returned (.int .i64 (a % 1048576)) ∧ w = w' := by
  have h1 := tmod_lo a (show (0 : Int) < 1048576 by omega)
  have h2 := tmod_hi a (show (0 : Int) < 1048576 by omega)
  go_enter Try.func73, Try.ntmps73
  go_wp2
  go_ret
  exact ⟨ret_int ((Int.tmod_eq_emod_of_nonneg (by omega)).symm.trans (turn_tmod a)), rfl⟩
theorem sWrap_any (a : Int) (w : World) : Calls Try.prog 37 #[.int .i64 a] w fun e w' => e = .returned (.int .i64 (wph a)) ∧ w = w' := by
  have HE : Hid (wph a = if 524288 ≤ a % 1048576 then a % 1048576 - 1048576 else a % 1048576) := rfl
  obtain ⟨t, ht⟩ : ∃ t, t = a % 1048576 := ⟨_, rfl⟩
  have h0 : 0 ≤ t := by omega
  have h1 : t < 1048576 := by omega
  rw [← ht] at HE
  go_enter Try.func37, Try.ntmps37
  go_wp2_with fail
  refine (sTurn_any _ _).mono ?_
  rintro e w1 ⟨rfl, rfl⟩
  rw [← ht]
  clear ht
  by_cases h : 524288 ≤ t
  · go_wp2
    go_ret
    exact ⟨ret_int (by rw [HE.out, if_pos h]), rfl⟩
  · go_wp2
    go_ret
    exact ⟨ret_int (by rw [HE.out, if_neg (by omega)]), rfl⟩
theorem iWrap_any (a : Int) (w : World) : Calls Try.prog 38 #[.int .i64 a] w fun e w' => e = .returned (.int .i64 (wph a)) ∧ w = w' := by
  have HE : Hid (wph a = if 524288 ≤ a % 1048576 then a % 1048576 - 1048576 else a % 1048576) := rfl
  obtain ⟨t, ht⟩ : ∃ t, t = a % 1048576 := ⟨_, rfl⟩
  have h0 : 0 ≤ t := by omega
  have h1 : t < 1048576 := by omega
  rw [← ht] at HE
  go_enter Try.func38, Try.ntmps38
  go_wp2_with fail
  refine (modulo_any _ _ (by omega) (by omega) _).mono ?_
  rintro e w1 ⟨rfl, rfl⟩
  rw [← ht]
  clear ht
  by_cases h : 524288 ≤ t
  · go_wp2
    go_ret
    exact ⟨ret_int (by rw [HE.out, if_pos h]), rfl⟩
  · go_wp2
    go_ret
    exact ⟨ret_int (by rw [HE.out, if_neg (by omega)]), rfl⟩
theorem sStep_any (a b : Int) (w : World) : Calls Try.prog 79 #[.int .i64 a, .int .i64 b] w fun e w' => e = .returned (.int .i64 (wst a b)) ∧ w = w' := by
  have a0 := wph_lo a
  have a1 := wph_hi a
  have b0 := wph_lo b
  have b1 := wph_hi b
  go_enter Try.func79, Try.ntmps79
  go_wp2_with fail
  refine (sWrap_any _ _).mono ?_
  rintro e w1 ⟨rfl, rfl⟩
  go_wp2_with fail
  refine (sWrap_any _ _).mono ?_
  rintro e w1 ⟨rfl, rfl⟩
  go_wp2_with fail
  refine (sWrap_any _ _).mono ?_
  rintro e w1 ⟨rfl, rfl⟩
  go_wp2
  go_ret
  exact ⟨rfl, rfl⟩
theorem iStep_any (a b : Int) (w : World) : Calls Try.prog 76 #[.int .i64 a, .int .i64 b] w fun e w' => e = .returned (.int .i64 (wst a b)) ∧ w = w' := by
  have a0 := wph_lo a
  have a1 := wph_hi a
  have b0 := wph_lo b
  have b1 := wph_hi b
  go_enter Try.func76, Try.ntmps76
  go_wp2_with fail
  refine (iWrap_any _ _).mono ?_
  rintro e w1 ⟨rfl, rfl⟩
  go_wp2_with fail
  refine (iWrap_any _ _).mono ?_
  rintro e w1 ⟨rfl, rfl⟩
  go_wp2_with fail
  refine (iWrap_any _ _).mono ?_
  rintro e w1 ⟨rfl, rfl⟩
  go_wp2
  go_ret
  exact ⟨rfl, rfl⟩
/-- What a list goes on to from a number x. -/
def goOn (x : Int) (f : Nat → Int) : Nat → Int
  | 0 => x
  | k + 1 => wrap64 (goOn x f k + wst (f k) (f (k + 1)))
def unw (f : Nat → Int) : Nat → Int := goOn (wph (f 0)) f
end Go.Proofs.Ytbagaicbochmnaa
