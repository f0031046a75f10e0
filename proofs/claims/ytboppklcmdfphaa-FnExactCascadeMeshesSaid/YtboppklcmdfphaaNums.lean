/- Residues, their sums, products, powers and inverses: contracts of both packages' functions. No memory is touched. -/
import Derived.Test.YtboppklcmdfphaaMath
import Derived.Test.YtboppklcmdfphaaRows
import Derived.WalkKit
import Derived.WalkSpells
import Derived.Outline
import Derived.RegionTactic
import Derived.Deep.QuietTactic
import Derived.Deep.RegionWith
import Derived.BigQuiet
import Derived.BigRegion
import Derived.WalkSmall
namespace Go.Proofs.Ytboppklcmdfphaa
open Go.RowKit

theorem ret_int {a b : Int} (h : a = b) : Ending.returned (.int .i64 a) = .returned (.int .i64 b) := by rw [h]
theorem rem_wrap {n : Int} (h0 : -998244353 < n) (h1 : n < 998244353) : wrap64 n = n := by unfold wrap64; omega

theorem l2Mod_any (a : Int) (w : World) : Calls Try.prog 58 #[.int .i64 a] w fun e w' => e = .returned (.int .i64 (Rm.md a)) ∧ w = w' := by
  have h1 := Rm.tm_lo a
  have h2 := Rm.tm_hi a
  rw [← Rm.md_of_tmod a]
  by_cases h : a.tmod 998244353 < 0
  · rw [if_pos h]
    go_enter Try.func58, Try.ntmps58
    go_wp2
    go_ret
    exact ⟨rfl, rfl⟩
  · rw [if_neg h]
    go_enter Try.func58, Try.ntmps58
    go_wp2
    go_ret
    exact ⟨rfl, rfl⟩
theorem tmod_mod (a : Int) {n : Int} (hn : 0 < n) : (if a.tmod n < 0 then a.tmod n + n else a.tmod n) = a % n := by
  have h1 := Int.emod_nonneg a (show n ≠ 0 by omega)
  have h2 := Int.emod_lt_of_pos a hn
  rw [Int.tmod_eq_emod]
  split <;> split <;> omega
theorem tmod_lo (a : Int) {n : Int} (hn : 0 < n) : -n < a.tmod n := by
  have h1 := Int.emod_nonneg a (show n ≠ 0 by omega)
  have h2 := Int.emod_lt_of_pos a hn
  rw [Int.tmod_eq_emod]
  split <;> omega
theorem tmod_hi (a : Int) {n : Int} (hn : 0 < n) : a.tmod n < n := by
  have h1 := Int.emod_nonneg a (show n ≠ 0 by omega)
  have h2 := Int.emod_lt_of_pos a hn
  rw [Int.tmod_eq_emod]
  split <;> omega
theorem modulo_any (a n : Int) (hn : 0 < n) (hn2 : n ≤ 9223372036854775807) (w : World) : Calls Try.prog 97 #[.int .i64 a, .int .i64 n] w fun e w' => e = .returned (.int .i64 (a % n)) ∧ w = w' := by
  have h1 := tmod_lo a hn
  have h2 := tmod_hi a hn
  have h3 : (n == 0) = false := by rw [beq_eq_false_iff_ne]; omega
  rw [← tmod_mod a hn]
  by_cases h : a.tmod n < 0
  · rw [if_pos h]
    go_enter Try.func97, Try.ntmps97
    go_wp2
    go_ret
    exact ⟨rfl, rfl⟩
  · rw [if_neg h]
    go_enter Try.func97, Try.ntmps97
    go_wp2
    go_ret
    exact ⟨rfl, rfl⟩
theorem residue_any (a : Int) (w : World) : Calls Try.prog 64 #[.int .i64 a] w fun e w' => e = .returned (.int .i64 (Rm.md a)) ∧ w = w' := by
  unfold Rm.md
  go_enter Try.func64, Try.ntmps64
  go_wp2_with fail
  refine (modulo_any _ _ (by omega) (by omega) _).mono ?_
  rintro e w1 ⟨rfl, rfl⟩
  go_wp2
  go_ret
  exact ⟨rfl, rfl⟩
theorem sAdd_any (a b : Int) (w : World) : Calls Try.prog 80 #[.int .i64 a, .int .i64 b] w fun e w' => e = .returned (.int .i64 (Rm.addM a b)) ∧ w = w' := by
  have h1 := Rm.md_lo a
  have h2 := Rm.md_hi a
  have h3 := Rm.md_lo b
  have h4 := Rm.md_hi b
  unfold Rm.addM
  go_enter Try.func80, Try.ntmps80
  go_wp2_with fail
  refine (l2Mod_any _ _).mono ?_
  rintro e w1 ⟨rfl, rfl⟩
  go_wp2_with fail
  refine (l2Mod_any _ _).mono ?_
  rintro e w1 ⟨rfl, rfl⟩
  go_wp2
  go_ret
  exact ⟨rfl, rfl⟩
theorem iAdd_any (a b : Int) (w : World) : Calls Try.prog 117 #[.int .i64 a, .int .i64 b] w fun e w' => e = .returned (.int .i64 (Rm.addM a b)) ∧ w = w' := by
  have h1 := Rm.md_lo a
  have h2 := Rm.md_hi a
  have h3 := Rm.md_lo b
  have h4 := Rm.md_hi b
  unfold Rm.addM
  go_enter Try.func117, Try.ntmps117
  go_wp2_with fail
  refine (residue_any _ _).mono ?_
  rintro e w1 ⟨rfl, rfl⟩
  go_wp2_with fail
  refine (residue_any _ _).mono ?_
  rintro e w1 ⟨rfl, rfl⟩
  go_wp2
  go_ret
  exact ⟨rfl, rfl⟩
theorem sMul_any (a b : Int) (w : World) : Calls Try.prog 79 #[.int .i64 a, .int .i64 b] w fun e w' => e = .returned (.int .i64 (Rm.mulM a b)) ∧ w = w' := by
  have h1 := Rm.prod_lo a b
  have h2 := Rm.prod_hi a b
  unfold Rm.mulM
  go_enter Try.func79, Try.ntmps79
  go_wp2_with fail
  refine (l2Mod_any _ _).mono ?_
  rintro e w1 ⟨rfl, rfl⟩
  go_wp2_with fail
  refine (l2Mod_any _ _).mono ?_
  rintro e w1 ⟨rfl, rfl⟩
  go_wp2
  go_ret
  exact ⟨rfl, rfl⟩
theorem iMul_any (a b : Int) (w : World) : Calls Try.prog 99 #[.int .i64 a, .int .i64 b] w fun e w' => e = .returned (.int .i64 (Rm.mulM a b)) ∧ w = w' := by
  have h1 := Rm.prod_lo a b
  have h2 := Rm.prod_hi a b
  unfold Rm.mulM
  go_enter Try.func99, Try.ntmps99
  go_wp2_with fail
  refine (residue_any _ _).mono ?_
  rintro e w1 ⟨rfl, rfl⟩
  go_wp2_with fail
  refine (residue_any _ _).mono ?_
  rintro e w1 ⟨rfl, rfl⟩
  go_wp2
  go_ret
  exact ⟨rfl, rfl⟩

theorem sPow_neg (a n : Int) (h : n < 0) (w : World) : Calls Try.prog 109 #[.int .i64 a, .int .i64 n] w fun e w' => e = .returned (.int .i64 (Rm.powI a n)) ∧ w = w' := by
  rw [Rm.powI_neg h]
  go_enter Try.func109, Try.ntmps109
  go_wp2
  go_ret
  exact ⟨rfl, rfl⟩
theorem iPow_neg (a n : Int) (h : n < 0) (w : World) : Calls Try.prog 116 #[.int .i64 a, .int .i64 n] w fun e w' => e = .returned (.int .i64 (Rm.powI a n)) ∧ w = w' := by
  rw [Rm.powI_neg h]
  go_enter Try.func116, Try.ntmps116
  go_wp2
  go_ret
  exact ⟨rfl, rfl⟩
/-- What a loop by squares keeps: what is still owed is the power. -/
def Pown (a : Int) (n : Nat) (out x : Int) (m : Nat) : Prop := 0 ≤ out ∧ out < 998244353 ∧ 0 ≤ x ∧ x < 998244353 ∧ Rm.owed out x m = Rm.powM a n
theorem pown_even {a : Int} {n : Nat} {out x : Int} {m : Nat} (h : Pown a n out x m) (hm : m % 2 = 0) : Pown a n out (x * x % 998244353) (m / 2) := by
  obtain ⟨h1, h2, h3, h4, h5⟩ := h
  exact ⟨h1, h2, by omega, by omega, (Rm.owed_even out x m hm).trans h5⟩
theorem pown_odd {a : Int} {n : Nat} {out x : Int} {m : Nat} (h : Pown a n out x m) (hm : m % 2 = 1) : Pown a n (out * x % 998244353) (x * x % 998244353) (m / 2) := by
  obtain ⟨h1, h2, h3, h4, h5⟩ := h
  exact ⟨by omega, by omega, by omega, by omega, (Rm.owed_odd out x m hm).trans h5⟩
set_option maxHeartbeats 800000 in
theorem sPow_pos (a : Int) (n : Nat) (hn : n ≤ 9223372036854775807) (w : World) : Calls Try.prog 109 #[.int .i64 a, .int .i64 n] w fun e w' => e = .returned (.int .i64 (Rm.powI a n)) ∧ w = w' := by
  rw [Rm.powI_pos]
  have h0 : decide ((n : Int) < 0) = false := by simp
  go_enter Try.func109, Try.ntmps109
  go_wp2_with fail
  refine (l2Mod_any _ _).mono ?_
  rintro e w1 ⟨rfl, rfl⟩
  go_wp2_with fail
  go_loopw [1, 5, 6] (fun m out x wr => wr = w ∧ ∃ (k : Nat) (o y : Int), m = .int .i64 k ∧ out = .int .i64 o ∧ x = .int .i64 y ∧ k ≤ 9223372036854775807 ∧ Pown a n o y k) (fun m _ _ _ => (intOf m).toNat)
  case atStart => exact ⟨rfl, n, 1, Rm.md a, rfl, rfl, rfl, hn, by omega, by omega, Rm.md_lo a, Rm.md_hi a, Rm.owed_start a n⟩
  case round =>
    clear h0
    obtain ⟨rfl, k, o, y, rfl, rfl, rfl, hk, hp⟩ := hrel
    have HP : Hid (Pown a n o y k) := hp
    obtain ⟨p1, p2, p3, p4, p5⟩ := hp
    clear p5
    have q1 := Rm.mul_hi p1 p2 p3 p4
    have q2 := Rm.mul_hi p3 p4 p3 p4
    obtain ⟨q1a, q1b⟩ := q1
    obtain ⟨q2a, q2b⟩ := q2
    by_cases hk0 : k = 0
    · subst hk0
      go_wp2
      go_ret
      obtain ⟨_, _, _, _, p5⟩ := HP.out
      exact ⟨ret_int (by rw [← p5, Rm.owed_end p1 p2]), rfl⟩
    have hkp : 0 < k := by omega
    clear hk0
    by_cases h2 : k % 2 = 1
    · have h3 : (((k : Int) % 2) == 1) = true := by rw [beq_iff_eq]; omega
      have H2 : Hid (k % 2 = 1) := h2
      clear h2
      go_wp2
      exact ⟨⟨by trivial, k / 2, _, _, by simp, rfl, rfl, by omega, pown_odd HP.out H2.out⟩, by simp [intOf]; omega⟩
    · have h3 : (((k : Int) % 2) == 1) = false := by rw [beq_eq_false_iff_ne]; omega
      have H2 : Hid (k % 2 = 0) := show k % 2 = 0 by omega
      clear h2
      go_wp2
      exact ⟨⟨by trivial, k / 2, o, _, by simp, rfl, rfl, by omega, pown_even HP.out H2.out⟩, by simp [intOf]; omega⟩
set_option maxHeartbeats 800000 in
theorem iPow_pos (a : Int) (n : Nat) (hn : n ≤ 9223372036854775807) (w : World) : Calls Try.prog 116 #[.int .i64 a, .int .i64 n] w fun e w' => e = .returned (.int .i64 (Rm.powI a n)) ∧ w = w' := by
  rw [Rm.powI_pos]
  have h0 : decide ((n : Int) < 0) = false := by simp
  go_enter Try.func116, Try.ntmps116
  go_wp2_with fail
  refine (residue_any _ _).mono ?_
  rintro e w1 ⟨rfl, rfl⟩
  go_wp2_with fail
  go_loopw [1, 5, 6] (fun m out x wr => wr = w ∧ ∃ (k : Nat) (o y : Int), m = .int .i64 k ∧ out = .int .i64 o ∧ x = .int .i64 y ∧ k ≤ 9223372036854775807 ∧ Pown a n o y k) (fun m _ _ _ => (intOf m).toNat)
  case atStart => exact ⟨rfl, n, 1, Rm.md a, rfl, rfl, rfl, hn, by omega, by omega, Rm.md_lo a, Rm.md_hi a, Rm.owed_start a n⟩
  case round =>
    clear h0
    obtain ⟨rfl, k, o, y, rfl, rfl, rfl, hk, hp⟩ := hrel
    have HP : Hid (Pown a n o y k) := hp
    obtain ⟨p1, p2, p3, p4, p5⟩ := hp
    clear p5
    have q1 := Rm.mul_hi p1 p2 p3 p4
    have q2 := Rm.mul_hi p3 p4 p3 p4
    obtain ⟨q1a, q1b⟩ := q1
    obtain ⟨q2a, q2b⟩ := q2
    by_cases hk0 : k = 0
    · subst hk0
      go_wp2
      go_ret
      obtain ⟨_, _, _, _, p5⟩ := HP.out
      exact ⟨ret_int (by rw [← p5, Rm.owed_end p1 p2]), rfl⟩
    have hkp : 0 < k := by omega
    clear hk0
    by_cases h2 : k % 2 = 1
    · have h3 : (((k : Int) % 2) == 1) = true := by rw [beq_iff_eq]; omega
      have H2 : Hid (k % 2 = 1) := h2
      clear h2
      go_wp2_with fail
      refine (iMul_any _ _ _).mono ?_
      rintro e w1 ⟨rfl, rfl⟩
      rw [Rm.mulM_res p1 p2 p3 p4]
      go_wp2_with fail
      refine (iMul_any _ _ _).mono ?_
      rintro e w1 ⟨rfl, rfl⟩
      rw [Rm.mulM_res p3 p4 p3 p4]
      go_wp2
      exact ⟨⟨by trivial, k / 2, _, _, by simp, rfl, rfl, by omega, pown_odd HP.out H2.out⟩, by simp [intOf]; omega⟩
    · have h3 : (((k : Int) % 2) == 1) = false := by rw [beq_eq_false_iff_ne]; omega
      have H2 : Hid (k % 2 = 0) := show k % 2 = 0 by omega
      clear h2
      go_wp2_with fail
      refine (iMul_any _ _ _).mono ?_
      rintro e w1 ⟨rfl, rfl⟩
      rw [Rm.mulM_res p3 p4 p3 p4]
      go_wp2
      exact ⟨⟨by trivial, k / 2, o, _, by simp, rfl, rfl, by omega, pown_even HP.out H2.out⟩, by simp [intOf]; omega⟩
theorem sPow_any (a n : Int) (h : n ≤ 9223372036854775807) (w : World) : Calls Try.prog 109 #[.int .i64 a, .int .i64 n] w fun e w' => e = .returned (.int .i64 (Rm.powI a n)) ∧ w = w' := by
  by_cases h0 : n < 0
  · exact sPow_neg a n h0 w
  · obtain ⟨m, rfl⟩ := Int.eq_ofNat_of_zero_le (show 0 ≤ n by omega)
    exact sPow_pos a m (by omega) w
theorem iPow_any (a n : Int) (h : n ≤ 9223372036854775807) (w : World) : Calls Try.prog 116 #[.int .i64 a, .int .i64 n] w fun e w' => e = .returned (.int .i64 (Rm.powI a n)) ∧ w = w' := by
  by_cases h0 : n < 0
  · exact iPow_neg a n h0 w
  · obtain ⟨m, rfl⟩ := Int.eq_ofNat_of_zero_le (show 0 ≤ n by omega)
    exact iPow_pos a m (by omega) w
theorem sInv_any (a : Int) (w : World) : Calls Try.prog 78 #[.int .i64 a] w fun e w' => e = .returned (.int .i64 (Rm.invM a)) ∧ w = w' := by
  unfold Rm.invM
  go_enter Try.func78, Try.ntmps78
  go_wp2_with fail
  refine (sPow_any _ _ (by omega) _).mono ?_
  rintro e w1 ⟨rfl, rfl⟩
  go_wp2
  go_ret
  exact ⟨rfl, rfl⟩
theorem iInv_any (a : Int) (w : World) : Calls Try.prog 95 #[.int .i64 a] w fun e w' => e = .returned (.int .i64 (Rm.invM a)) ∧ w = w' := by
  unfold Rm.invM
  go_enter Try.func95, Try.ntmps95
  go_wp2_with fail
  refine (iPow_any _ _ (by omega) _).mono ?_
  rintro e w1 ⟨rfl, rfl⟩
  go_wp2
  go_ret
  exact ⟨rfl, rfl⟩
end Go.Proofs.Ytboppklcmdfphaa
