/- The loops that reckon greatest common divisors, and the absolute value. -/
import Derived.Test.YtkkajcdjkfbcgaaChecked
import Derived.Test.YtkkajcdjkfbcgaaMath
import Derived.WalkKit
import Derived.WalkSpells
import Derived.Outline
import Derived.RegionTactic
import Derived.Deep.QuietTactic
import Derived.BigQuiet
namespace Go.Proofs.Ytkkajcdjkfbcgaa
open Go.RowKit
theorem ret_int {k : IntKind} {a b : Int} (h : a = b) : Ending.returned (.int k a) = .returned (.int k b) := by rw [h]

theorem abs_any (a : Int) (w : World) (h1 : -3000000000000000000 ≤ a) (h2 : a ≤ 3000000000000000000) :
    Calls Try.prog 119 #[.int .i64 a] w fun e w' => e = .returned (.int .i64 a.natAbs) ∧ w' = w := by
  by_cases h : a < 0
  · go_enter Try.func119, Try.ntmps119
    go_wp2
    go_ret
    exact ⟨ret_int (by omega), rfl⟩
  · go_enter Try.func119, Try.ntmps119
    go_wp2
    go_ret
    exact ⟨ret_int (by omega), rfl⟩

theorem tmod_bd (a b : Int) (ha : 0 ≤ a) (hb : 0 < b) : 0 ≤ a.tmod b ∧ a.tmod b < b := by
  rw [Int.tmod_eq_emod_of_nonneg ha]; exact ⟨Int.emod_nonneg _ (by omega), Int.emod_lt_of_pos _ hb⟩

set_option maxHeartbeats 400000 in
theorem gcd_any (a b : Int) (w : World) (h1 : 0 ≤ a) (h2 : a ≤ 3000000000000000000) (h3 : 0 ≤ b) (h4 : b ≤ 3000000000000000000) :
    Calls Try.prog 118 #[.int .i64 a, .int .i64 b] w fun e w' => e = .returned (.int .i64 (Int.gcd a b)) ∧ w' = w := by
  go_enter Try.func118, Try.ntmps118
  go_wp2
  go_loop [0, 1] (fun x y => ∃ p q : Int, x = .int .i64 p ∧ y = .int .i64 q ∧ 0 ≤ p ∧ p ≤ 3000000000000000000 ∧ 0 ≤ q ∧ q ≤ 3000000000000000000 ∧ Int.gcd p q = Int.gcd a b) (fun _ y => (intOf y).toNat)
  case atStart => exact ⟨a, b, rfl, rfl, h1, h2, h3, h4, rfl⟩
  case round =>
    obtain ⟨p, q, rfl, rfl, hp1, hp2, hq1, hq2, hg⟩ := hrel
    have HG : Hid (Int.gcd p q = Int.gcd a b) := hg
    clear hg
    by_cases hq : q = 0
    · subst hq
      go_wp2
      go_ret
      exact ⟨ret_int (by rw [← HG.out, Int.gcd_zero_right]; omega), rfl⟩
    · have hb := tmod_bd p q hp1 (by omega)
      have hs := Fm.gcd_step p q
      rw [Int.tmod_eq_emod_of_nonneg hp1] at hs hb
      have HS : Hid (Int.gcd q (p % q) = Int.gcd p q) := hs
      clear hs
      have hq' : (q != 0) = true := by rw [bne_iff_ne]; exact hq
      go_wp2
      go_round
      case rel => exact ⟨q, p % q, rfl, rfl, hq1, hq2, hb.1, by omega, by rw [HS.out, HG.out]⟩
      case measure => simp [intOf]; omega

set_option maxHeartbeats 400000 in
theorem cd_any (a b : Int) (w : World) (h1 : -3000000000000000000 ≤ a) (h2 : a ≤ 3000000000000000000) (h3 : 0 ≤ b) (h4 : b ≤ 3000000000000000000) :
    Calls Try.prog 131 #[.int .i64 a, .int .i64 b] w fun e w' => e = .returned (.int .i64 (Int.gcd a b)) ∧ ∃ n, w' = w.drewN n := by
  go_enter Try.func131, Try.ntmps131
  go_wp2
  go_loopw [0, 1] (fun x y wr => ∃ p q : Int, x = .int .i64 p ∧ y = .int .i64 q ∧ -3000000000000000000 ≤ p ∧ p ≤ 3000000000000000000 ∧ -3000000000000000000 ≤ q ∧ q ≤ 3000000000000000000 ∧ Int.gcd p q = Int.gcd a b ∧ ∃ n, wr = w.drewN n) (fun _ y _ => (intOf y).natAbs)
  case atStart => exact ⟨a, b, rfl, rfl, h1, h2, by omega, h4, rfl, 0, rfl⟩
  case round =>
    obtain ⟨p, q, rfl, rfl, hp1, hp2, hq1, hq2, hg, n, rfl⟩ := hrel
    have HG : Hid (Int.gcd p q = Int.gcd a b) := hg
    clear hg
    by_cases hq : q = 0
    · subst hq
      by_cases hp : p < 0
      all_goals
        go_wp2
        go_ret
        exact ⟨ret_int (by rw [← HG.out, Int.gcd_zero_right]; omega), n, rfl⟩
    · have hs := Fm.gcd_step p q
      have HS : Hid (Int.gcd q (p.tmod q) = Int.gcd p q) := hs
      clear hs
      have hq' : (q != 0) = true := by rw [bne_iff_ne]; exact hq
      go_wp2
      go_quiet (fail)
      go_wp2
      have hm : (p.tmod q).natAbs < q.natAbs := by rw [Int.natAbs_tmod]; exact Nat.mod_lt _ (by omega)
      go_roundw
      case rel => exact ⟨q, p.tmod q, rfl, rfl, hq1, hq2, by omega, by omega, by rw [HS.out, HG.out], n + nq, by rw [World.drewN_drewN]⟩
      case measure => exact hm
end Go.Proofs.Ytkkajcdjkfbcgaa
