/- Maps put together: plainly. -/
import Derived.Test.YtcmgafgboepllaaIn
namespace Go.Proofs.Ytcmgafgboepllaa
open Go.RowKit Fl
set_option linter.unusedVariables false
set_option linter.unusedSimpArgs false
/-- Which bin cell t falls into. -/
def bix (s b t : Nat) : Nat := t / s / b * (s / b) + t % s / b
def bst (f : Nat → Int) (s b : Nat) : Nat → Nat → Int
  | 0 => fun _ => 0
  | t + 1 => fun i => if i = bix s b t then bst f s b t i + f t else bst f s b t i
theorem bst_bd {f : Nat → Int} {s b N : Nat} (h : ∀ i, i < N → 0 ≤ f i ∧ f i ≤ 1000000) : ∀ t, t ≤ N → ∀ i, 0 ≤ bst f s b t i ∧ bst f s b t i ≤ t * 1000000
  | 0, _, i => by simp [bst]
  | t + 1, ht, i => by
    have h1 := bst_bd (s := s) (b := b) h t (by omega) i
    have h2 := h t (by omega)
    unfold bst
    split <;> omega
theorem bix_lt {s b t : Nat} (hb : 1 ≤ b) (hd : s % b = 0) (ht : t < s * s) : bix s b t < s / b * (s / b) := by
  have e : s = b * (s / b) := by have := Nat.div_add_mod s b; omega
  have hs : 0 < s := by
    rcases Nat.eq_zero_or_pos s with h | h
    · subst h; simp at ht
    · exact h
  have h1 : t / s < s := Nat.div_lt_of_lt_mul ht
  have h2 : t % s < s := Nat.mod_lt _ hs
  have h3 : t / s / b < s / b := Nat.div_lt_of_lt_mul (by rw [← e]; exact h1)
  have h4 : t % s / b < s / b := Nat.div_lt_of_lt_mul (by rw [← e]; exact h2)
  unfold bix
  exact idx_lt h4 h3
abbrev okC (f : Nat → Int) (i : Nat) : Prop := 0 ≤ f i ∧ f i ≤ 1000000
def rc (f : Nat → Int) (n : Nat) : Int := if (∀ i, i < n → okC f i) then 0 else 3
theorem rc_bad {f : Nat → Int} {n k : Nat} (hk : k < n) (h : ¬ okC f k) : rc f n = 3 := by
  unfold rc
  rw [if_neg]
  exact fun g => h (g k hk)
theorem rc_ok {f : Nat → Int} {n : Nat} (h : ∀ i, i < n → okC f i) : rc f n = 0 := by
  unfold rc
  rw [if_pos h]
structure Gd (n : Nat) (s b : Int) : Prop where
  s1 : 1 ≤ s
  s2 : s ≤ 20
  sq : (n : Int) = s * s
  b1 : 1 ≤ b
  b2 : b ≤ s
  dv : s.tmod b = 0
theorem split_at {s t : Nat} {y x : Nat} (hx : x < s) (ht : t = y * s + x) : t / s = y ∧ t % s = x := by
  subst ht
  rw [Nat.mul_comm y s, Nat.mul_add_div (by omega), Nat.mul_add_mod, Nat.div_eq_of_lt hx, Nat.mod_eq_of_lt hx]
  omega
theorem sq_le {s : Nat} (h : s ≤ 20) : s * s ≤ 400 := Nat.mul_le_mul h h
theorem nil_own {w w' : World} (F : Nat → Value) : OwS 2 w.heap.size w'.heap.size w' (.slice none 0 0) 0 F := Or.inl ⟨rfl, rfl⟩
end Go.Proofs.Ytcmgafgboepllaa
