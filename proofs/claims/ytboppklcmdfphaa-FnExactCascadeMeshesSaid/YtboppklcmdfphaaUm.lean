/- How far a walk row by row has come. -/
import Derived.Test.YtboppklcmdfphaaBk
namespace Go.Proofs.Ytboppklcmdfphaa
open Go.RowKit
set_option linter.unusedVariables false
/-- The last place of a way row by row. -/
theorem plcs_snoc {m k : Nat} {L : List (Nat × Nat)} {p : Nat × Nat} (h : L ++ [p] = plcs m (k + 1)) : L = plcs m k ∧ p = (k / m, k % m) := by
  rw [plcs_succ] at h
  have := List.append_inj' h rfl
  exact ⟨this.1, by simpa using this.2⟩
end Go.Proofs.Ytboppklcmdfphaa
