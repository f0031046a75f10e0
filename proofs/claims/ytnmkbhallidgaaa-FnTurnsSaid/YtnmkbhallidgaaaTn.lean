/- Turns as they come out: exact words; the opposite float; what the comparison says of them. -/
import Derived.Test.YtnmkbhallidgaaaTf
namespace Go.Proofs.Ytnmkbhallidgaaa
open Go.RowKit Fl
set_option linter.unusedVariables false
set_option linter.unusedSimpArgs false
theorem turn_is {t : Int} {a b : Nat} (h : turnC t = (some a, some b)) (w : World) : Calls Try.prog 20 #[.int .i64 t] w fun e w' => e = .returned (Zv a b) ∧ Below w.heap.size w w' := by
  refine (iTurn_any t w).mono ?_
  rintro e w' ⟨x, y, rfl, hz, hb⟩
  obtain ⟨rfl, rfl⟩ := zc_some hz h
  exact ⟨rfl, hb⟩
/-- The turn's words. -/
def tx (t : Int) : Nat := (turnC t).1.getD 0
def ty (t : Int) : Nat := (turnC t).2.getD 0
theorem turn_eq (t : Int) : turnC t = (some (tx t), some (ty t)) := by
  obtain ⟨x, y, h, _, _⟩ := turn_bd t
  unfold tx ty
  rw [h]
  rfl
theorem turn_u (t : Int) (w : World) : Calls Try.prog 20 #[.int .i64 t] w fun e w' => e = .returned (Zv (tx t) (ty t)) ∧ Below w.heap.size w w' := turn_is (turn_eq t) w
theorem turn_v {t : Int} {a b : Nat} (h : turnC t = (some a, some b)) : Ending.returned (Zv (tx t) (ty t)) = .returned (Zv a b) := by
  unfold tx ty
  rw [h]
  rfl
theorem same_is {a b c d : Nat} (h1 : oeq a c = true) (h2 : oeq b d = true) (w : World) : Calls Try.prog 21 #[Zv a b, Zv c d] w fun e w' => e = .returned (.bool true) ∧ Below w.heap.size w w' := by
  refine (iSame_any a b c d w).mono ?_
  rintro e w' ⟨rfl, hb⟩
  refine ⟨?_, hb⟩
  unfold sameB
  rw [h1, h2]
  rfl
theorem neg_parts {x : Nat} (hx : x < 18446744073709551616) : Op.negFloat .f64 x < 18446744073709551616 ∧ rg (Op.negFloat .f64 x) = rg x ∧ sg (Op.negFloat .f64 x) = !sg x := by
  have e : Op.negFloat .f64 x = x ^^^ 2 ^ 63 := rfl
  have h1 : (x ^^^ 2 ^ 63) % 2 ^ 63 = x % 2 ^ 63 := by rw [Nat.xor_mod_two_pow, Nat.mod_self, Nat.xor_zero]
  have h2 : (x ^^^ 2 ^ 63) / 2 ^ 63 = x / 2 ^ 63 ^^^ 1 := by rw [Nat.xor_div_two_pow, Nat.div_self (by decide)]
  rw [e]
  generalize x ^^^ 2 ^ 63 = y at h1 h2
  have h3 : x / 2 ^ 63 = 0 ∨ x / 2 ^ 63 = 1 := by omega
  unfold sg rg
  rcases h3 with h3 | h3
  · rw [h3, show (0 ^^^ 1 : Nat) = 1 from rfl] at h2
    refine ⟨by omega, by omega, ?_⟩
    rw [decide_eq_true (by omega), decide_eq_false (by omega)]
    rfl
  · rw [h3, show (1 ^^^ 1 : Nat) = 0 from rfl] at h2
    refine ⟨by omega, by omega, ?_⟩
    rw [decide_eq_false (by omega), decide_eq_true (by omega)]
    rfl
theorem oeq_opp {x y : Nat} (hx : x < 18446744073709551616) (hy : y < 18446744073709551616) (n : Num x) (h : Opp x y) : oeq y (Op.negFloat .f64 x) = true := by
  obtain ⟨a, b, c⟩ := neg_parts hx
  have m : Num y := by
    show rg y ≤ 9218868437227405312
    rw [← h.1]
    exact n
  have k : Num (Op.negFloat .f64 x) := by
    show rg (Op.negFloat .f64 x) ≤ 9218868437227405312
    rw [b]
    exact n
  refine oeq_sv hy a m k ?_
  rw [b, c, ← h.1]
  by_cases z : rg x = 0
  · rw [z]
    unfold sv
    rw [vv_zero]
    cases sg x <;> cases sg y <;> rfl
  · rw [h.2 z]
    simp
theorem tmod_bd (t : Int) : ∃ u : Int, t.tmod 1048576 = u ∧ -1048576 < u ∧ u < 1048576 :=
  ⟨_, rfl, Int.lt_tmod_of_pos t (by decide), Int.tmod_lt_of_pos t (by decide)⟩
theorem half_x {s : Int} (h0 : 0 ≤ s) (h1 : s < 524288) : oeq (tx (s + 524288)) (Op.negFloat .f64 (tx s)) = true ∧ oeq (ty (s + 524288)) (Op.negFloat .f64 (ty s)) = true := by
  obtain ⟨x, y, x', y', e, e', ox, oy, bx, by_, bx', by'⟩ := turn_half h0 h1
  have k := (turn_eq s).symm.trans e
  have k' := (turn_eq (s + 524288)).symm.trans e'
  have k1 : tx s = x := Option.some.inj (congrArg Prod.fst k)
  have k2 : ty s = y := Option.some.inj (congrArg Prod.snd k)
  have k3 : tx (s + 524288) = x' := Option.some.inj (congrArg Prod.fst k')
  have k4 : ty (s + 524288) = y' := Option.some.inj (congrArg Prod.snd k')
  rw [k1, k2, k3, k4]
  exact ⟨oeq_opp bx.1 bx'.1 (bx.num (by omega)) ox, oeq_opp by_.1 by'.1 (by_.num (by omega)) oy⟩
theorem words {t : Int} {a b : Nat} (h : turnC t = (some a, some b)) : tx t = a ∧ ty t = b := by
  unfold tx ty
  rw [h]
  exact ⟨rfl, rfl⟩
theorem same_words {t : Int} {a b : Nat} (h : turnC t = (some a, some b)) (h1 : oeq a a = true) (h2 : oeq b b = true) : (∀ w, Calls Try.prog 21 #[Zv (tx t) (ty t), Zv a b] w fun e w' => e = .returned (.bool true) ∧ Below w.heap.size w w') ∧ ∀ w, Calls Try.prog 21 #[Zv a b, Zv (tx t) (ty t)] w fun e w' => e = .returned (.bool true) ∧ Below w.heap.size w w' := by
  rw [(words h).1, (words h).2]
  exact ⟨same_is h1 h2, same_is h1 h2⟩
attribute [irreducible] tx ty
end Go.Proofs.Ytnmkbhallidgaaa
