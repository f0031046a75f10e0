/- A fraction's fault, as the specification and as the program reckon it: one number. -/
import Derived.Test.YtkkajcdjkfbcgaaBase
namespace Go.Proofs.Ytkkajcdjkfbcgaa
open Go.RowKit
/-- The fraction n by d is right. -/
def rightB (n d : Int) : Bool := inB n d && decide (Int.gcd n d = 1)
def fault (n d : Int) : Int := if rightB n d = true then 0 else 1
theorem fault_out {n d : Int} (h : ¬ (1 ≤ d ∧ d ≤ 1000000000 ∧ -1000000000 ≤ n ∧ n ≤ 1000000000)) : fault n d = 1 := by
  unfold fault rightB inB; simp; omega
theorem fault_in {n d : Int} (h : 1 ≤ d ∧ d ≤ 1000000000 ∧ -1000000000 ≤ n ∧ n ≤ 1000000000) (g : Int.gcd n d = 1) : fault n d = 0 := by
  unfold fault rightB inB; simp [g, h]
theorem fault_gcd {n d : Int} (g : Int.gcd n d ≠ 1) : fault n d = 1 := by
  unfold fault rightB inB; simp [g]

set_option maxHeartbeats 400000 in
theorem sfault_1 (n d : Int) (w : World) (h : d < 1) :
    Calls Try.prog 105 #[.agg #[.int .i64 n, .int .i64 d]] w fun e w' => e = .returned (.int .i64 (fault n d)) ∧ Below w.heap.size w w' := by
  rw [fault_out (by omega)]
  have hd : decide (d < 1) = true := by simpa using h
  go_enter Try.func105, Try.ntmps105
  go_wp2
  go_quiet (fail)
  go_wp2
  go_ret
  exact ⟨rfl, below_drewN ((Below.refl _ _).alloc (Nat.le_refl _) _) _⟩
set_option maxHeartbeats 400000 in
theorem sfault_2 (n d : Int) (w : World) (h1 : 1 ≤ d) (h2 : 1000000000 < d) :
    Calls Try.prog 105 #[.agg #[.int .i64 n, .int .i64 d]] w fun e w' => e = .returned (.int .i64 (fault n d)) ∧ Below w.heap.size w w' := by
  rw [fault_out (by omega)]
  have hd : decide (d < 1) = false := by simp; omega
  go_enter Try.func105, Try.ntmps105
  go_wp2
  go_quiet (fail)
  go_wp2
  go_ret
  exact ⟨rfl, below_drewN ((Below.refl _ _).alloc (Nat.le_refl _) _) _⟩
set_option maxHeartbeats 400000 in
theorem sfault_3 (n d : Int) (w : World) (h1 : 1 ≤ d) (h2 : d ≤ 1000000000) (h3 : n < -1000000000) :
    Calls Try.prog 105 #[.agg #[.int .i64 n, .int .i64 d]] w fun e w' => e = .returned (.int .i64 (fault n d)) ∧ Below w.heap.size w w' := by
  rw [fault_out (by omega)]
  have hd : decide (d < 1) = false := by simp; omega
  have hd2 : decide (1000000000 < d) = false := by simp; omega
  go_enter Try.func105, Try.ntmps105
  go_wp2
  go_quiet (fail)
  go_wp2
  go_ret
  exact ⟨rfl, below_drewN ((Below.refl _ _).alloc (Nat.le_refl _) _) _⟩
set_option maxHeartbeats 400000 in
theorem sfault_4 (n d : Int) (w : World) (h1 : 1 ≤ d) (h2 : d ≤ 1000000000) (h3 : -1000000000 ≤ n) (h4 : 1000000000 < n) :
    Calls Try.prog 105 #[.agg #[.int .i64 n, .int .i64 d]] w fun e w' => e = .returned (.int .i64 (fault n d)) ∧ Below w.heap.size w w' := by
  rw [fault_out (by omega)]
  have hd : decide (d < 1) = false := by simp; omega
  have hd2 : decide (1000000000 < d) = false := by simp; omega
  have hd3 : decide (n < -1000000000) = false := by simp; omega
  go_enter Try.func105, Try.ntmps105
  go_wp2
  go_quiet (fail)
  go_wp2
  go_ret
  exact ⟨rfl, below_drewN ((Below.refl _ _).alloc (Nat.le_refl _) _) _⟩
theorem abs_gcd (n d : Int) : Int.gcd (n.natAbs : Int) d = Int.gcd n d := by unfold Int.gcd; simp
set_option maxHeartbeats 400000 in
theorem sfault_5 (n d : Int) (w : World) (h1 : 1 ≤ d) (h2 : d ≤ 1000000000) (h3 : -1000000000 ≤ n) (h4 : n ≤ 1000000000) (g : Int.gcd n d ≠ 1) :
    Calls Try.prog 105 #[.agg #[.int .i64 n, .int .i64 d]] w fun e w' => e = .returned (.int .i64 (fault n d)) ∧ Below w.heap.size w w' := by
  rw [fault_gcd g]
  have hd : decide (d < 1) = false := by simp; omega
  have hd2 : decide (1000000000 < d) = false := by simp; omega
  have hd3 : decide (n < -1000000000) = false := by simp; omega
  have hd4 : decide (1000000000 < n) = false := by simp; omega
  have hx : ((Int.gcd (n.natAbs : Int) d : Int) != 1) = true := by rw [abs_gcd]; simp; omega
  clear g
  go_enter Try.func105, Try.ntmps105
  go_wp2
  go_quiet (first | (go_at_call 119; exact Calls.quiet_of_same (abs_any _ _ (by omega) (by omega))) | (go_at_call 118; exact Calls.quiet_of_same (gcd_any _ _ _ (by omega) (by omega) (by omega) (by omega))))
  go_wp2
  go_ret
  exact ⟨rfl, below_drewN ((Below.refl _ _).alloc (Nat.le_refl _) _) _⟩
set_option maxHeartbeats 400000 in
theorem sfault_6 (n d : Int) (w : World) (h1 : 1 ≤ d) (h2 : d ≤ 1000000000) (h3 : -1000000000 ≤ n) (h4 : n ≤ 1000000000) (g : Int.gcd n d = 1) :
    Calls Try.prog 105 #[.agg #[.int .i64 n, .int .i64 d]] w fun e w' => e = .returned (.int .i64 (fault n d)) ∧ Below w.heap.size w w' := by
  rw [fault_in ⟨h1, h2, h3, h4⟩ g]
  have hd : decide (d < 1) = false := by simp; omega
  have hd2 : decide (1000000000 < d) = false := by simp; omega
  have hd3 : decide (n < -1000000000) = false := by simp; omega
  have hd4 : decide (1000000000 < n) = false := by simp; omega
  have hx : ((Int.gcd (n.natAbs : Int) d : Int) != 1) = false := by rw [abs_gcd]; simp; omega
  clear g
  go_enter Try.func105, Try.ntmps105
  go_wp2
  go_quiet (first | (go_at_call 119; exact Calls.quiet_of_same (abs_any _ _ (by omega) (by omega))) | (go_at_call 118; exact Calls.quiet_of_same (gcd_any _ _ _ (by omega) (by omega) (by omega) (by omega))))
  go_wp2
  go_ret
  exact ⟨rfl, below_drewN ((Below.refl _ _).alloc (Nat.le_refl _) _) _⟩
/-- The specification's FracFault. -/
theorem sfault (n d : Int) (w : World) :
    Calls Try.prog 105 #[.agg #[.int .i64 n, .int .i64 d]] w fun e w' => e = .returned (.int .i64 (fault n d)) ∧ Below w.heap.size w w' := by
  by_cases h1 : d < 1
  · exact sfault_1 n d w h1
  by_cases h2 : 1000000000 < d
  · exact sfault_2 n d w (by omega) h2
  by_cases h3 : n < -1000000000
  · exact sfault_3 n d w (by omega) (by omega) h3
  by_cases h4 : 1000000000 < n
  · exact sfault_4 n d w (by omega) (by omega) (by omega) h4
  by_cases g : Int.gcd n d = 1
  · exact sfault_6 n d w (by omega) (by omega) (by omega) (by omega) g
  · exact sfault_5 n d w (by omega) (by omega) (by omega) (by omega) g
end Go.Proofs.Ytkkajcdjkfbcgaa
