/- The laws' own copies of matrices, and the sizes that they ask first: contracts. -/
import Derived.Test.YtclnmikneomccaaTos
namespace Go.Proofs.Ytclnmikneomccaa
open Go.RowKit
/-- So many numbers are in the first k rows. -/
def Sm (L : Nat → Nat) : Nat → Nat | 0 => 0 | k + 1 => Sm L k + L k
theorem Sm_mono (L : Nat → Nat) (k : Nat) : ∀ m, Sm L k ≤ Sm L (k + m)
  | 0 => Nat.le_refl _
  | m + 1 => by have := Sm_mono L k m; rw [← Nat.add_assoc, Sm]; omega
theorem Sm_le {L : Nat → Nat} {k n : Nat} (h : k ≤ n) : Sm L k ≤ Sm L n := by
  have := Sm_mono L k (n - k)
  rwa [Nat.add_sub_cancel' h] at this
theorem le_Sm {L : Nat → Nat} {i n : Nat} (h : i < n) : L i ≤ Sm L n := by
  have := Sm_le (L := L) (show i + 1 ≤ n by omega)
  rw [Sm] at this
  omega
/-- What a look at the sizes tells: too many, or how many are left. -/
def Told (n : Nat) (L : Nat → Nat) (left r : Int) : Prop := r = -1 ∨ (0 ≤ r ∧ r + n + Sm L n = left)
end Go.Proofs.Ytclnmikneomccaa
