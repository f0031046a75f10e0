/- The lock-in's sums, plainly: a constant is not seen; a quarter of a period changes what is in phase and what is across. -/
import Derived.Test.YtkkajcdjkfbcgaaLk
namespace Go.Proofs.Ytkkajcdjkfbcgaa
open Go.RowKit
set_option linter.unusedVariables false
/-- A sum of the first n. -/
def sm (g : Nat → Int) : Nat → Int
  | 0 => 0
  | n + 1 => sm g n + g n
theorem sm_congr {g h : Nat → Int} : ∀ {n : Nat}, (∀ i, i < n → g i = h i) → sm g n = sm h n
  | 0, _ => rfl
  | n + 1, e => by
    unfold sm
    rw [sm_congr (n := n) fun i hi => e i (by omega), e n (by omega)]
theorem sm_split (g : Nat → Int) (a : Nat) : ∀ b, sm g (a + b) = sm g a + sm (fun i => g (a + i)) b
  | 0 => by simp [sm]
  | b + 1 => by
    rw [← Nat.add_assoc]
    show sm g (a + b) + g (a + b) = sm g a + (sm (fun i => g (a + i)) b + g (a + b))
    rw [sm_split g a b]
    omega
theorem sm_neg (g : Nat → Int) : ∀ n, sm (fun i => -(g i)) n = -(sm g n)
  | 0 => rfl
  | n + 1 => by
    show sm (fun i => -(g i)) n + -(g n) = -(sm g n + g n)
    rw [sm_neg g n]
    omega
theorem sm_plus (g h : Nat → Int) : ∀ n, sm (fun i => g i + h i) n = sm g n + sm h n
  | 0 => rfl
  | n + 1 => by
    show sm (fun i => g i + h i) n + (g n + h n) = (sm g n + g n) + (sm h n + h n)
    rw [sm_plus g h n]
    omega
/-- Moved round by s places it is the same sum. -/
theorem sm_turn (g : Nat → Int) {n s : Nat} (h : s ≤ n) : sm (fun i => g ((i + s) % n)) n = sm g n := by
  by_cases hn : n = 0
  · subst hn; rfl
  obtain ⟨d, rfl⟩ : ∃ d, n = d + s := ⟨n - s, by omega⟩
  rw [sm_split (fun i => g ((i + s) % (d + s))) d s, show d + s = s + d by omega, sm_split g s d]
  have e1 : sm (fun i => g ((i + s) % (s + d))) d = sm (fun i => g (s + i)) d := sm_congr fun i hi => by
    show g ((i + s) % (s + d)) = g (s + i)
    rw [Nat.mod_eq_of_lt (by omega), Nat.add_comm]
  have e2 : sm (fun i => g ((d + i + s) % (s + d))) s = sm g s := sm_congr fun i hi => by
    show g ((d + i + s) % (s + d)) = g i
    rw [show d + i + s = i + (s + d) by omega, Nat.add_mod_right, Nat.mod_eq_of_lt (by omega)]
  rw [e1, e2]
  omega
/-- The square wave. -/
def sg (p j : Nat) (x : Int) : Int := if j % p < p / 2 then x else -x
theorem sg_mod {p n j : Nat} (h : n % p = 0) (x : Int) : sg p (j % n) x = sg p j x := by
  unfold sg
  rw [Nat.mod_mod_of_dvd j (Nat.dvd_of_mod_eq_zero h)]
theorem mod_half {p j : Nat} (hp : p ≠ 0) (h2 : p % 2 = 0) : ((j + p / 2) % p < p / 2) ↔ ¬ (j % p < p / 2) := by
  have hj := Nat.mod_lt j (Nat.pos_of_ne_zero hp)
  rw [Nat.add_mod, Nat.mod_eq_of_lt (a := p / 2) (by omega)]
  by_cases h : j % p < p / 2
  · rw [Nat.mod_eq_of_lt (by omega)]; omega
  · rw [Nat.mod_eq_sub_mod (by omega), Nat.mod_eq_of_lt (by omega)]; omega
theorem sg_half {p j : Nat} (hp : p ≠ 0) (h2 : p % 2 = 0) (x : Int) : sg p (j + p / 2) x = -(sg p j x) := by
  unfold sg
  have := mod_half (j := j) hp h2
  by_cases h : j % p < p / 2
  · rw [if_pos h, if_neg (fun k => this.1 k h)]
  · rw [if_neg h, if_pos (this.2 h)]; omega
theorem lsum_sm (f : Nat → Int) (p a : Nat) : ∀ n, lsum f (p : Int) (a : Int) n = sm (fun i => sg p (i + a) (f i)) n
  | 0 => rfl
  | n + 1 => by
    show lsum f p a n + _ = sm (fun i => sg p (i + a) (f i)) n + sg p (n + a) (f n)
    rw [lsum_sm f p a n]
    have hc : ((n : Int) + (a : Int)) % (p : Int) = (((n + a) % p : Nat) : Int) := by norm_cast
    rw [hc]
    unfold sg
    by_cases h : (n + a) % p < p / 2
    · rw [if_pos h, if_pos (by omega)]
    · rw [if_neg h, if_neg (by omega)]
theorem sg_plus (p j : Nat) (x y : Int) : sg p j (x + y) = sg p j x + sg p j y := by
  unfold sg
  split <;> omega
/-- Of a constant nothing is seen. -/
theorem sm_const {p n : Nat} (a : Nat) (k : Int) (hp : p ≠ 0) (h2 : p % 2 = 0) (hn : n % p = 0) (h0 : n ≠ 0) : sm (fun i => sg p (i + a) k) n = 0 := by
  have hle : p / 2 ≤ n := by
    have := Nat.le_of_dvd (Nat.pos_of_ne_zero h0) (Nat.dvd_of_mod_eq_zero hn)
    omega
  have e := sm_turn (fun j => sg p (j + a) k) hle
  have e2 : sm (fun i => sg p ((i + p / 2) % n + a) k) n = sm (fun i => -(sg p (i + a) k)) n := sm_congr fun i hi => by
    show sg p ((i + p / 2) % n + a) k = -(sg p (i + a) k)
    rw [← sg_half hp h2, ← sg_mod hn (j := (i + p / 2) % n + a), ← sg_mod hn (j := i + a + p / 2)]
    congr 1
    rw [Nat.add_mod, Nat.mod_mod, ← Nat.add_mod]
    congr 1
    omega
  rw [e2, sm_neg] at e
  omega
theorem lock_const {f : Nat → Int} {p n : Nat} (a : Nat) (k : Int) (hp : p ≠ 0) (h2 : p % 2 = 0) (hn : n % p = 0) (h0 : n ≠ 0) : lsum (fun i => f i + k) (p : Int) (a : Int) n = lsum f (p : Int) (a : Int) n := by
  rw [lsum_sm, lsum_sm]
  have : sm (fun i => sg p (i + a) (f i + k)) n = sm (fun i => sg p (i + a) (f i) + sg p (i + a) k) n := sm_congr fun i _ => sg_plus _ _ _ _
  rw [this, sm_plus, sm_const a k hp h2 hn h0]
  omega
/-- A quarter later what was across is in phase. -/
theorem lock_quad {f : Nat → Int} {p n : Nat} (hp : p ≠ 0) (h4 : p % 4 = 0) (hn : n % p = 0) (h0 : n ≠ 0) : lsum (fun i => f ((i + p / 4) % n)) (p : Int) ((p / 4 : Nat) : Int) n = lsum f (p : Int) ((0 : Nat) : Int) n := by
  have hle : p / 4 ≤ n := by
    have := Nat.le_of_dvd (Nat.pos_of_ne_zero h0) (Nat.dvd_of_mod_eq_zero hn)
    omega
  rw [lsum_sm, lsum_sm]
  have e := sm_turn (fun j => sg p j (f j)) hle
  rw [show sm (fun i => sg p (i + 0) (f i)) n = sm (fun j => sg p j (f j)) n from rfl, ← e]
  exact sm_congr fun i _ => (sg_mod hn _).symm
theorem lock_in {f : Nat → Int} {p n : Nat} (hp : p ≠ 0) (h4 : p % 4 = 0) (hn : n % p = 0) (h0 : n ≠ 0) : lsum (fun i => f ((i + p / 4) % n)) (p : Int) ((0 : Nat) : Int) n = -(lsum f (p : Int) ((p / 4 : Nat) : Int) n) := by
  have hle : p / 4 ≤ n := by
    have := Nat.le_of_dvd (Nat.pos_of_ne_zero h0) (Nat.dvd_of_mod_eq_zero hn)
    omega
  rw [lsum_sm, lsum_sm, ← sm_turn (fun j => sg p (j + p / 4) (f j)) hle, ← sm_neg]
  refine sm_congr fun i _ => ?_
  show sg p (i + 0) (f ((i + p / 4) % n)) = -(sg p ((i + p / 4) % n + p / 4) (f ((i + p / 4) % n)))
  have e : sg p ((i + p / 4) % n + p / 4) (f ((i + p / 4) % n)) = sg p (i + p / 2) (f ((i + p / 4) % n)) := by
    rw [← sg_mod hn (j := (i + p / 4) % n + p / 4), ← sg_mod hn (j := i + p / 2)]
    congr 1
    rw [Nat.add_mod, Nat.mod_mod, ← Nat.add_mod]
    congr 1
    omega
  rw [e, sg_half hp (by omega), Nat.add_zero]
  omega
end Go.Proofs.Ytkkajcdjkfbcgaa
