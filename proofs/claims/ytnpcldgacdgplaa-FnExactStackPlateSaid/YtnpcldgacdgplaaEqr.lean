/- The laws' own comparison of results that hold a plate: a contract. -/
import Derived.Test.YtnpcldgacdgplaaPr
import Derived.Test.YtnpcldgacdgplaaTp
namespace Go.Proofs.Ytnpcldgacdgplaa
open Go.RowKit Fl
set_option linter.unusedVariables false
set_option linter.unusedSimpArgs false
set_option maxHeartbeats 3200000 in
theorem eqR_same {c : Int} {a0 a1 a2 a3 a4 a5 a6 a7 b0 b1 b2 b3 b4 b5 b6 b7 : Nat} {p : P4} (h : Pc a0 a1 a2 a3 a4 a5 a6 a7 p) (k : Pc b0 b1 b2 b3 b4 b5 b6 b7 p) (w : World) :
    Calls Try.prog 19 #[Rv9 c a0 a1 a2 a3 a4 a5 a6 a7, Rv9 c b0 b1 b2 b3 b4 b5 b6 b7] w fun e w' => e = .returned (.bool true) ∧ Below w.heap.size w w' := by
  have H : Hid (∀ w, Calls Try.prog 45 #[Pv a0 a1 a2 a3 a4 a5 a6 a7, Pv b0 b1 b2 b3 b4 b5 b6 b7] w fun e w' => e = .returned (.bool true) ∧ Below w.heap.size w w') := eqP_same h k
  clear h k
  go_enter Try.func19, Try.ntmps19
  go_wp2_with fail
  refine (H.out _).mono ?_
  rintro e w1 ⟨rfl, b1⟩
  go_wp2
  go_ret
  exact ⟨rfl, below_alloc2 b1⟩
end Go.Proofs.Ytnpcldgacdgplaa
