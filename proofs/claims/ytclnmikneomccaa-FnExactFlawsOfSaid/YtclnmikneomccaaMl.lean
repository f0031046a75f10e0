/- Numbers within bounds, the first code, plainly. -/
import Derived.Test.YtclnmikneomccaaNums
namespace Go.Proofs.Ytclnmikneomccaa
set_option linter.unusedVariables false
namespace Mt
def inR (n lo hi : Int) : Bool := decide (lo ≤ n) && decide (n ≤ hi)
theorem inR_iff {n lo hi : Int} : inR n lo hi = true ↔ lo ≤ n ∧ n ≤ hi := by unfold inR; simp
theorem inR_not {n lo hi : Int} : inR n lo hi = false ↔ n < lo ∨ hi < n := by unfold inR; simp; omega
/-- The first k are right. -/
def all (P : Nat → Bool) : Nat → Bool
  | 0 => true
  | k + 1 => all P k && P k
theorem all_at {P : Nat → Bool} : ∀ {n : Nat}, all P n = true → ∀ k, k < n → P k = true
  | 0, _, k, hk => absurd hk (Nat.not_lt_zero _)
  | n + 1, h, k, hk => by
    have h' : (all P n && P n) = true := h
    rw [Bool.and_eq_true] at h'
    by_cases e : k = n
    · subst e; exact h'.2
    · exact all_at h'.1 k (by omega)
theorem all_next {P : Nat → Bool} {k : Nat} (h : all P k = true) (hp : P k = true) : all P (k + 1) = true := by
  show (all P k && P k) = true
  rw [h, hp]; rfl
theorem all_hit {P : Nat → Bool} : ∀ {n k : Nat}, k < n → P k = false → all P n = false
  | 0, k, hk, _ => absurd hk (Nat.not_lt_zero _)
  | n + 1, k, hk, h => by
    show (all P n && P n) = false
    by_cases e : k = n
    · subst e; rw [h, Bool.and_false]
    · rw [all_hit (show k < n by omega) h]; rfl
/-- The first code but 0 of the first k. -/
def fst (c : Nat → Int) : Nat → Int
  | 0 => 0
  | k + 1 => if fst c k = 0 then c k else fst c k
theorem fst_next {c : Nat → Int} {k : Nat} (h : fst c k = 0) (hc : c k = 0) : fst c (k + 1) = 0 := by
  show (if fst c k = 0 then c k else fst c k) = 0
  rw [if_pos h, hc]
theorem fst_hit {c : Nat → Int} {k : Nat} (h : fst c k = 0) (hc : c k ≠ 0) : ∀ {n : Nat}, k < n → fst c n = c k
  | 0, hk => absurd hk (Nat.not_lt_zero _)
  | n + 1, hk => by
    show (if fst c n = 0 then c n else fst c n) = _
    by_cases e : k = n
    · subst e; rw [if_pos h]
    · rw [fst_hit h hc (show k < n by omega), if_neg hc]
end Mt
end Go.Proofs.Ytclnmikneomccaa
