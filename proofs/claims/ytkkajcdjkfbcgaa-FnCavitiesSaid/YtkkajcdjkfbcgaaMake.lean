/- MakeFrac, as the specification and as the program reckon it: one answer. And the laws' comparison of two answers that are one. -/
import Derived.Test.YtkkajcdjkfbcgaaLow
import Derived.Handy
namespace Go.Proofs.Ytkkajcdjkfbcgaa
open Go.RowKit
def outR (n d : Int) : Bool := decide (n < -1000000000000000000 ∨ 1000000000000000000 < n ∨ d < -1000000000000000000 ∨ 1000000000000000000 < d)
def mkC (n d : Int) : Int := if outR n d = true then 3 else if d = 0 then 6 else resC n d
def mkN (n d : Int) : Int := if outR n d = true then 0 else if d = 0 then 0 else resN n d
def mkD (n d : Int) : Int := if outR n d = true then 0 else if d = 0 then 0 else resD n d
theorem mk_out {n d : Int} (h : n < -1000000000000000000 ∨ 1000000000000000000 < n ∨ d < -1000000000000000000 ∨ 1000000000000000000 < d) : mkC n d = 3 ∧ mkN n d = 0 ∧ mkD n d = 0 := by
  have e : outR n d = true := by unfold outR; exact decide_eq_true h
  simp [mkC, mkN, mkD, e]
theorem mk_zero {n d : Int} (h : ¬ (n < -1000000000000000000 ∨ 1000000000000000000 < n)) (hd : d = 0) : mkC n d = 6 ∧ mkN n d = 0 ∧ mkD n d = 0 := by
  subst hd
  have e : outR n 0 = false := by unfold outR; exact decide_eq_false (by omega)
  simp [mkC, mkN, mkD, e]
theorem mk_in {n d : Int} (h : ¬ (n < -1000000000000000000 ∨ 1000000000000000000 < n ∨ d < -1000000000000000000 ∨ 1000000000000000000 < d)) (hd : d ≠ 0) : mkC n d = resC n d ∧ mkN n d = resN n d ∧ mkD n d = resD n d := by
  have e : outR n d = false := by unfold outR; exact decide_eq_false h
  simp [mkC, mkN, mkD, e, hd]
set_option maxHeartbeats 400000 in
theorem eqFrac_same (n d : Int) (w : World) :
    Calls Try.prog 89 #[.agg #[.int .i64 n, .int .i64 d], .agg #[.int .i64 n, .int .i64 d]] w fun e w' => e = .returned (.bool true) ∧ Below w.heap.size w w' := by
  go_enter Try.func89, Try.ntmps89
  go_wp2
  go_ret
  refine ⟨rfl, ?_⟩
  go_grown
end Go.Proofs.Ytkkajcdjkfbcgaa
