/- The laws' own sizes, copies and comparisons of glasses: contracts. -/
import Derived.Test.YtndfncjoknibaaaDoorGf
import Derived.Test.YtndfncjoknibaaaDoorSame
import Derived.Deep.RegionHeld3
namespace Go.Proofs.YtndfncjoknibaaaDoor
open Go.RowKit Fl
set_option linter.unusedVariables false
theorem st64 : ∀ (a : Addr) (m : Mode) (w : World) (x : Nat), (store a (.float .f64 x) m).run Tryd.prog w = stored Tryd.prog w a (.float .f64 x) m := fun a m w _ => run_store Tryd.prog w a _ m rfl
theorem szS_any (ao : Option Addr) (n cap : Nat) (left : Int) (w : World) (h0 : 0 ≤ left) (h1 : left ≤ 1048576) (hn : n ≤ 9223372036854775807) :
    Calls Tryd.prog 38 #[.slice ao n cap, .int .i64 left] w fun e w' => e = .returned (.int .i64 (if left < n then -1 else left - n)) ∧ w = w' := by
  by_cases h : left < n
  · rw [if_pos h]
    go_enter Tryd.func38, Tryd.ntmps38
    go_wp2
    go_ret
    exact ⟨rfl, rfl⟩
  · rw [if_neg h]
    go_enter Tryd.func38, Tryd.ntmps38
    go_wp2
    go_ret
    exact ⟨rfl, rfl⟩
/-- What a glass leaves of a bound: -1, or the rest. -/
def szG (m n left : Int) : Int := if left < m then -1 else if left - m < n then -1 else left - m - n
set_option maxHeartbeats 800000 in
theorem szG_any (s : ByteArray) (kd lo hi : Int) (ao : Option Addr) (n cap x : Nat) (left : Int) (w : World) (h0 : 0 ≤ left) (h1 : left ≤ 1048576) (hn : n ≤ 9223372036854775807) (hs : s.size ≤ 9223372036854775807) :
    Calls Tryd.prog 10 #[.agg #[.string s, .int .i64 kd, .int .i64 lo, .int .i64 hi, .slice ao n cap, .float .f64 x], .int .i64 left] w fun e w' => e = .returned (.int .i64 (szG s.size n left)) ∧ Below w.heap.size w w' := by
  unfold szG
  by_cases h : left < s.size
  · rw [if_pos h]
    go_enter Tryd.func10, Tryd.ntmps10
    go_wp2
    go_ret
    exact ⟨rfl, by go_grown⟩
  · rw [if_neg h]
    by_cases h2 : left - s.size < n
    · rw [if_pos h2]
      have HZ : Hid (∀ w, Calls Tryd.prog 38 #[.slice ao n cap, .int .i64 (left - s.size)] w fun e w' => e = .returned (.int .i64 (-1)) ∧ w = w') := by
        intro w
        have := szS_any ao n cap (left - s.size) w (by omega) (by omega) hn
        rwa [if_pos h2] at this
      go_enter Tryd.func10, Tryd.ntmps10
      go_wp2_with (go_at_call 38; refine (HZ.out _).mono ?_; rintro e w' ⟨rfl, rfl⟩)
      go_ret
      exact ⟨rfl, by go_grown⟩
    · rw [if_neg h2]
      have HZ : Hid (∀ w, Calls Tryd.prog 38 #[.slice ao n cap, .int .i64 (left - s.size)] w fun e w' => e = .returned (.int .i64 (left - s.size - n)) ∧ w = w') := by
        intro w
        have := szS_any ao n cap (left - s.size) w (by omega) (by omega) hn
        rwa [if_neg h2] at this
      go_enter Tryd.func10, Tryd.ntmps10
      go_wp2_with (go_at_call 38; refine (HZ.out _).mono ?_; rintro e w' ⟨rfl, rfl⟩)
      go_ret
      exact ⟨rfl, by go_grown⟩
theorem szG_no {m n left : Int} (h : ¬ szG m n left < 0) : szG m n left = left - m - n ∧ m + n ≤ left := by
  unfold szG at h ⊢
  by_cases h1 : left < m
  · rw [if_pos h1] at h; omega
  · rw [if_neg h1] at h ⊢
    by_cases h2 : left - m < n
    · rw [if_pos h2] at h; omega
    · rw [if_neg h2] at h ⊢; omega
end Go.Proofs.YtndfncjoknibaaaDoor
