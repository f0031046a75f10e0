/- The specification's whole root, digit by digit: a contract. -/
import Derived.Test.YtgidoceflkdklaaSCmp
import Derived.Test.YtgidoceflkdklaaFlDigits
namespace Go.Proofs.Ytgidoceflkdklaa
open Go.RowKit Fl
set_option linter.unusedVariables false
theorem wraps_i64 (n : Int) (h₀ : 0 ≤ n) (h₁ : n < 2 ^ 63) : IntKind.i64.wrap n = n := by rw [IntKind.wrap_i64]; omega
theorem pair_bits {m j : Nat} {M : Int} (hm : m < 18014398509481984) (hM : M = m) (hj : j ≤ 26) : bits .and .i64 (M / 2 ^ (2 * (26 - j))) 3 = ((two m j : Nat) : Int) := by
  have e : M / 2 ^ (2 * (26 - j)) = ((m / 4 ^ (26 - j) : Nat) : Int) := by
    rw [hM, Int.natCast_ediv, show (4 : Nat) = 2 ^ 2 by decide, ← Nat.pow_mul]
    simp
  rw [e]
  have h1 : m / 4 ^ (26 - j) ≤ m := Nat.div_le_self _ _
  unfold two
  rw [if_pos hj]
  generalize m / 4 ^ (26 - j) = z at h1 ⊢
  have := bits_mask .i64 63 (by decide) wraps_i64 2 (by omega) (z : Int) (by omega) (by omega)
  rw [show (2 : Int) ^ 2 - 1 = 3 by decide, show (2 : Int) ^ 2 = 4 by decide] at this
  rw [this]
  omega
set_option maxHeartbeats 1600000 in
theorem root_any {m : Nat} {M : Int} (hm : m < 18014398509481984) (hM : M = m) (h0 : 0 ≤ M) (hM2 : M < 18014398509481984) (w : World) :
    Calls Try.prog 99 #[.int .i64 M] w fun e w' => ∃ R : Nat, e = .returned (.int .i64 R) ∧ R * R ≤ m * 18014398509481984 ∧ m * 18014398509481984 < (R + 1) * (R + 1) ∧ w = w' := by
  have HM : Hid (m < 18014398509481984 ∧ M = m) := ⟨hm, hM⟩
  clear hm hM
  go_enter Try.func99, Try.ntmps99
  go_wp2
  go_loopw [3, 4, 5] (fun a b c wr => wr = w ∧ ∃ (j : Nat) (R Q K : Int), a = .int .i64 R ∧ b = .int .i64 Q ∧ c = .int .i64 K ∧ K = 26 - j ∧ j ≤ 54 ∧ 0 ≤ R ∧ R < 18014398509481984 ∧ 0 ≤ Q ∧ Q ≤ 2 * R ∧ Hid (∃ r q : Nat, R = r ∧ Q = q ∧ r * r + q = pre m j ∧ q ≤ 2 * r)) (fun _ _ c _ => (intOf c + 100).toNat)
  case atStart => exact ⟨rfl, 0, 0, 0, 26, rfl, rfl, rfl, by omega, by omega, by omega, by omega, by omega, by omega, 0, 0, rfl, rfl, by rw [pre_zero HM.out.1], by omega⟩
  case round =>
    obtain ⟨rfl, j, R, Q, K, rfl, rfl, rfl, hK, hj, hR, hR2, hQ, hQ2, HR⟩ := hrel
    by_cases h : -27 ≤ K
    · obtain ⟨T, hT⟩ : ∃ T : Int, T = (two m j : Nat) := ⟨_, rfl⟩
      have ht := two_lt m j
      have hT0 : 0 ≤ T := by omega
      have hT3 : T ≤ 3 := by omega
      have HN : Hid ((Q * 4 + T < R * 4 + 1 → R * 2 < 18014398509481984 ∧ ∃ r q : Nat, R * 2 = r ∧ Q * 4 + T = q ∧ r * r + q = pre m (j + 1) ∧ q ≤ 2 * r) ∧
          (R * 4 + 1 ≤ Q * 4 + T → R * 2 + 1 < 18014398509481984 ∧ ∃ r q : Nat, R * 2 + 1 = r ∧ Q * 4 + T - (R * 4 + 1) = q ∧ r * r + q = pre m (j + 1) ∧ q ≤ 2 * r)) := by
        obtain ⟨r, q, e1, e2, e3, e4⟩ := HR.out
        have hp := pre_le (j := j + 1) HM.out.1 (by omega)
        rw [pre_succ] at hp ⊢
        constructor
        · intro hn
          obtain ⟨d1, d2⟩ := digit_no (t := two m j) e3 e4 (by omega)
          have := root_lt d1 hp
          exact ⟨by omega, r * 2, q * 4 + two m j, by omega, by omega, d1, d2⟩
        · intro hn
          obtain ⟨d1, d2⟩ := digit_yes (t := two m j) e3 e4 ht (by omega)
          have := root_lt d1 hp
          exact ⟨by omega, r * 2 + 1, q * 4 + two m j - (r * 4 + 1), by omega, by omega, d1, d2⟩
      by_cases hk : 0 ≤ K
      · have hB : bits .and .i64 (M / 2 ^ (2 * (26 - j))) 3 = T := by
          rw [hT]; exact pair_bits HM.out.1 HM.out.2 (by omega)
        clear hT ht HR
        by_cases hn : Q * 4 + T < R * 4 + 1
        · obtain ⟨n1, n2⟩ := HN.out.1 hn
          have HN' : Hid (∃ r q : Nat, R * 2 = r ∧ Q * 4 + T = q ∧ r * r + q = pre m (j + 1) ∧ q ≤ 2 * r) := n2
          clear HN n2
          go_wp2
          go_roundw
          case rel => exact ⟨by trivial, j + 1, R * 2, Q * 4 + T, 26 - (j + 1 : Nat), rfl, rfl, by congr 1; omega, rfl, by omega, by omega, by omega, by omega, by omega, HN'.out⟩
          case measure => simp [intOf]; omega
        · obtain ⟨n1, n2⟩ := HN.out.2 (by omega)
          have HN' : Hid (∃ r q : Nat, R * 2 + 1 = r ∧ Q * 4 + T - (R * 4 + 1) = q ∧ r * r + q = pre m (j + 1) ∧ q ≤ 2 * r) := n2
          clear HN n2
          go_wp2
          go_roundw
          case rel => exact ⟨by trivial, j + 1, R * 2 + 1, Q * 4 + T - (R * 4 + 1), 26 - (j + 1 : Nat), rfl, rfl, by congr 1; omega, rfl, by omega, by omega, by omega, by omega, by omega, HN'.out⟩
          case measure => simp [intOf]; omega
      · obtain rfl : T = 0 := by
          rw [hT]; unfold two; rw [if_neg (by omega)]; rfl
        clear hT ht HR
        by_cases hn : Q * 4 + 0 < R * 4 + 1
        · obtain ⟨n1, n2⟩ := HN.out.1 hn
          have HN' : Hid (∃ r q : Nat, R * 2 = r ∧ Q * 4 + 0 = q ∧ r * r + q = pre m (j + 1) ∧ q ≤ 2 * r) := n2
          clear HN n2
          go_wp2
          go_roundw
          case rel => exact ⟨by trivial, j + 1, R * 2, Q * 4 + 0, 26 - (j + 1 : Nat), rfl, by congr 1; omega, by congr 1; omega, rfl, by omega, by omega, by omega, by omega, by omega, HN'.out⟩
          case measure => simp [intOf]; omega
        · obtain ⟨n1, n2⟩ := HN.out.2 (by omega)
          have HN' : Hid (∃ r q : Nat, R * 2 + 1 = r ∧ Q * 4 + 0 - (R * 4 + 1) = q ∧ r * r + q = pre m (j + 1) ∧ q ≤ 2 * r) := n2
          clear HN n2
          go_wp2
          go_roundw
          case rel => exact ⟨by trivial, j + 1, R * 2 + 1, Q * 4 + 0 - (R * 4 + 1), 26 - (j + 1 : Nat), rfl, by congr 1; omega, by congr 1; omega, rfl, by omega, by omega, by omega, by omega, by omega, HN'.out⟩
          case measure => simp [intOf]; omega
    · obtain rfl : j = 54 := by omega
      go_wp2
      go_ret
      obtain ⟨r, q, e1, e2, e3, e4⟩ := HR.out
      rw [pre_last] at e3
      obtain ⟨d1, d2⟩ := root_end e3 e4
      exact ⟨r, congrArg (fun z => Ending.returned (Value.int .i64 z)) e1, d1, d2, rfl⟩
end Go.Proofs.Ytgidoceflkdklaa
