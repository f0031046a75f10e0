/- A tree of splitters: plainly; the specification. -/
import Derived.Test.YtkkajcdjkfbcgaaSe2
import Derived.Handy
import Derived.Deep.RegionHeld3
namespace Go.Proofs.Ytkkajcdjkfbcgaa
open Go.RowKit
set_option linter.unusedVariables false
set_option linter.unusedSimpArgs false
/-- A level's numbers and its seed: by the level, then the place within it. lv k i: number i of level k; sd k: the seed ahead of level k. -/
structure Lvl where
  f : Nat → Int
  s : Int
/-- The seed ahead of place i of a level. -/
def ps (L : Lvl) : Nat → Int
  | 0 => L.s
  | i + 1 => cx (ps L i) (L.f i).toNat
/-- The next level: each number becomes two. -/
def nxt (L : Lvl) (n : Nat) : Lvl :=
  ⟨fun j => if j % 2 = 0 then ca (ps L (j / 2)) 2 1 (L.f (j / 2)).toNat else L.f (j / 2) - ca (ps L (j / 2)) 2 1 (L.f (j / 2)).toNat, ps L n⟩
def tre (p s : Int) : Nat → Lvl
  | 0 => ⟨fun _ => p, s⟩
  | k + 1 => nxt (tre p s k) (2 ^ k)
structure Lvk (L : Lvl) : Prop where
  f0 : ∀ i, 0 ≤ L.f i ∧ L.f i ≤ 4096
  s0 : 0 ≤ L.s ∧ L.s < 2147483647
theorem ps_bd {L : Lvl} (h : Lvk L) : ∀ i, 0 ≤ ps L i ∧ ps L i < 2147483647
  | 0 => h.s0
  | i + 1 => cx_bd (ps_bd h i).1 (ps_bd h i).2 _
theorem nxt_ok {L : Lvl} (h : Lvk L) (n : Nat) : Lvk (nxt L n) := by
  refine ⟨fun j => ?_, ps_bd h n⟩
  have h1 := h.f0 (j / 2)
  have h2 := ca_bd (ps L (j / 2)) 2 1 (L.f (j / 2)).toNat
  have h3 : ((L.f (j / 2)).toNat : Int) = L.f (j / 2) := Int.toNat_of_nonneg h1.1
  simp only [nxt]
  split <;> omega
theorem tre_ok {p s : Int} (hp : 0 ≤ p ∧ p ≤ 4096) (hs : 0 ≤ s ∧ s < 2147483647) : ∀ k, Lvk (tre p s k)
  | 0 => ⟨fun _ => hp, hs⟩
  | k + 1 => nxt_ok (tre_ok hp hs k) _
theorem nxt_even (L : Lvl) (n i : Nat) : (nxt L n).f (2 * i) = ca (ps L i) 2 1 (L.f i).toNat := by
  simp only [nxt]
  rw [if_pos (by omega), show 2 * i / 2 = i by omega]
theorem nxt_odd (L : Lvl) (n i : Nat) : (nxt L n).f (2 * i + 1) = L.f i - ca (ps L i) 2 1 (L.f i).toNat := by
  simp only [nxt]
  rw [if_neg (by omega), show (2 * i + 1) / 2 = i by omega]
theorem Lvk.good {L : Lvl} (h : Lvk L) (i : Nat) : Sgood ((L.f i).toNat : Nat) 1 2 (ps L i) := by
  have h1 := h.f0 i
  have h2 := ps_bd h i
  constructor <;> omega
/-- Two numbers laid behind an owned list. -/
theorem il_push2 (f : Nat → Int) (k : Nat) : il f k ++ [.int .i64 (f k), .int .i64 (f (k + 1))] = il f (k + 2) := by
  rw [← il_push f (k + 1), ← il_push f k]
  simp
end Go.Proofs.Ytkkajcdjkfbcgaa
