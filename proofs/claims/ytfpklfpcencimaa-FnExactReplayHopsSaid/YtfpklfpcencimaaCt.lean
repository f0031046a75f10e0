/- slices.Contains and slices.Index of numbers: contracts. -/
import Derived.Test.YtfpklfpcencimaaVr
import Derived.Test.YtfpklfpcencimaaNl
namespace Go.Proofs.Ytfpklfpcencimaa
open Go.RowKit
set_option linter.unusedVariables false
set_option linter.unusedSimpArgs false
set_option maxRecDepth 20000 in
set_option maxHeartbeats 1600000 in
theorem idx_any {w : World} {ao : Option Addr} {n cap : Nat} {p : Nat → Int} (v : Int) (h : RdRow w (.slice ao n cap) n p) (hn : n ≤ 1048576) :
    Calls Try.prog 63 #[.slice ao n cap, .int .i64 v] w fun e w' => ∃ r : Int, e = .returned (.int .i64 r) ∧ decide (0 ≤ r) = Nt.has p n v ∧ w' = w := by
  have hnI : (n : Int) ≤ 1048576 := by omega
  have H : Hid (RdRow w (.slice ao n cap) n p) := h
  clear h
  go_enter Try.func63, Try.ntmps63
  go_wp2_with fail
  go_loopw [8] (fun i wr => wr = w ∧ ∃ k : Nat, k ≤ n ∧ i = .int .i64 k ∧ Hid (Nt.has p k v = false)) (fun i _ => n - (intOf i).toNat)
  case atStart => exact ⟨rfl, 0, Nat.zero_le _, rfl, rfl⟩
  case round =>
    obtain ⟨rfl, k, hk, rfl, HF⟩ := hrel
    by_cases hkn : k < n
    · obtain ⟨b, off, rfl, hc⟩ := H.out.at hkn
      have hkI : (k : Int) < n := by omega
      cases hq : (v == p k) with
      | true =>
        have HJ : Hid (Nt.has p n v = true) := Nt.any_hit (q := fun k => p k == v) hkn (by rw [← hq]; exact BEq.comm)
        go_wp2
        go_ret
        exact ⟨_, rfl, by rw [HJ.out]; simp, rfl⟩
      | false =>
        have HJ : Hid (Nt.has p (k + 1) v = false) := Nt.any_next (q := fun k => p k == v) HF.out (by rw [← hq]; exact BEq.comm)
        go_wp2
        go_roundw
        case rel => exact ⟨by trivial, k + 1, by omega, by simp, HJ⟩
        case measure => simp [intOf]; omega
    · obtain rfl : k = n := by omega
      go_wp2
      go_ret
      exact ⟨_, rfl, by rw [HF.out]; simp, rfl⟩
set_option maxRecDepth 20000 in
set_option maxHeartbeats 1600000 in
theorem cnt_any {w : World} {ao : Option Addr} {n cap : Nat} {p : Nat → Int} (v : Int) (h : RdRow w (.slice ao n cap) n p) (hn : n ≤ 1048576) :
    Calls Try.prog 58 #[.slice ao n cap, .int .i64 v] w fun e w' => e = .returned (.bool (Nt.has p n v)) ∧ w' = w := by
  have HH : Hid (RdRow w (.slice ao n cap) n p) := h
  clear h
  go_enter Try.func58, Try.ntmps58
  go_wp2_with fail
  refine (idx_any v HH.out hn).mono ?_
  rintro e w1 ⟨r, rfl, hr, rfl⟩
  have HD : Hid (decide (0 ≤ r) = Nt.has p n v) := hr
  clear hr
  go_wp2
  go_ret
  exact ⟨by rw [← HD.out]; rfl, rfl⟩
end Go.Proofs.Ytfpklfpcencimaa
