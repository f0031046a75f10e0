/- Turns: the unit roots by classes, the product over a number's digits, its bounds, and half a turn more. No program's walk. -/
import Derived.Test.YtbagaicbochmnaaZab
namespace Go.Proofs.Ytbagaicbochmnaa
open Go.RowKit Fl
set_option linter.unusedVariables false
set_option linter.unusedSimpArgs false
/-- The next unit root by classes. -/
def stepX (u : Option Nat × Option Nat) : Option Nat := sqK (opC .quo (opC .add (cl 4607182418800017408) u.1) (cl 4611686018427387904))
def stepC (u : Option Nat × Option Nat) : Option Nat × Option Nat := (stepX u, opC .quo u.2 (opC .add (stepX u) (stepX u)))
def uC : Nat → Option Nat × Option Nat
  | 0 => (cl 13830554455654793216, cl 0)
  | 1 => (cl 0, cl 4607182418800017408)
  | i + 2 => stepC (uC (i + 1))
def uTab : List (Nat × Nat) := [(13830554455654793216, 0), (0, 4607182418800017408), (4604544271217802189, 4604544271217802188), (4606496786581982534, 4600565431771507042), (4607009347991985328, 4596196889902818826), (4607139046673687846, 4591727299969791019), (4607171569234046334, 4587232218149935123), (4607179706000002317, 4582730748936808061), (4607181740574479067, 4578227681973159812), (4607182249242036882, 4573724215515480177), (4607182376410422530, 4569220649180767418), (4607182408202612454, 4564717057876576045), (4607182416150665780, 4560213460330001248), (4607182418137679477, 4555709861222829734), (4607182418634432923, 4551206261725508988), (4607182418758621287, 4546702662130650929), (4607182418789668378, 4542199062511408542), (4607182418797430150, 4537695462886070074), (4607182418799370593, 4533191863259207585), (4607182418799855704, 4528688263631964091)]
def uT (i : Nat) : Nat × Nat := uTab.getD i (0, 0)
theorem tab_step : ∀ i : Fin 18, stepC (some (uT (i.val + 1)).1, some (uT (i.val + 1)).2) = (some (uT (i.val + 2)).1, some (uT (i.val + 2)).2) := by decide +kernel
theorem uC_tab : ∀ i, i < 20 → uC i = (some (uT i).1, some (uT i).2)
  | 0, _ => by decide +kernel
  | 1, _ => by decide +kernel
  | i + 2, h => by
    show stepC (uC (i + 1)) = _
    rw [uC_tab (i + 1) (by omega)]
    exact tab_step ⟨i, by omega⟩
theorem tab_bd : ∀ i : Fin 20, (uT i.val).1 < 18446744073709551616 ∧ (uT i.val).1 % 9223372036854775808 < 1024 * 4503599627370496 ∧ (uT i.val).2 < 18446744073709551616 ∧ (uT i.val).2 % 9223372036854775808 < 1024 * 4503599627370496 ∧ ((uT i.val).1 % 9223372036854775808 ≠ 0 ∨ (uT i.val).2 % 9223372036854775808 ≠ 0) := by decide +kernel
theorem uT_bd {i : Nat} (h : i < 20) : Bd (uT i).1 1 ∧ Bd (uT i).2 1 := by
  obtain ⟨h1, h2, h3, h4, _⟩ := tab_bd ⟨i, h⟩
  exact ⟨⟨h1, h2⟩, ⟨h3, h4⟩⟩
theorem uT_ne {i : Nat} (h : i < 20) : rg (uT i).1 ≠ 0 ∨ rg (uT i).2 ≠ 0 := (tab_bd ⟨i, h⟩).2.2.2.2
/-- The digit of t that belongs to the i-th root. -/
def dig (t : Int) (i : Nat) : Bool := decide (t / 2 ^ (19 - i) % 2 = 1)
def foldT (t : Int) : Nat → Option Nat × Option Nat
  | 0 => (cl 4607182418800017408, cl 0)
  | i + 1 => if dig t i = true then mulC (foldT t i) (uC i) else foldT t i
def turnC (t : Int) : Option Nat × Option Nat := foldT t 20
theorem fold_congr {t s : Int} : ∀ {i : Nat}, (∀ j, j < i → dig t j = dig s j) → foldT t i = foldT s i
  | 0, _ => rfl
  | i + 1, h => by
    unfold foldT
    rw [fold_congr (i := i) (fun j hj => h j (by omega)), h i (by omega)]
theorem fold_rest {t : Int} {i : Nat} : ∀ {n : Nat}, (∀ j, i ≤ j → j < i + n → dig t j = false) → foldT t (i + n) = foldT t i
  | 0, _ => rfl
  | n + 1, h => by
    show (if dig t (i + n) = true then mulC (foldT t (i + n)) (uC (i + n)) else foldT t (i + n)) = _
    rw [h (i + n) (by omega) (by omega), if_neg (by decide), fold_rest (fun j a b => h j a (by omega))]
theorem dig_mod (t : Int) {i : Nat} (hi : i < 20) : dig (t % 1048576) i = dig t i := by
  unfold dig
  congr 1
  have h : i = 0 ∨ i = 1 ∨ i = 2 ∨ i = 3 ∨ i = 4 ∨ i = 5 ∨ i = 6 ∨ i = 7 ∨ i = 8 ∨ i = 9 ∨ i = 10 ∨ i = 11 ∨ i = 12 ∨ i = 13 ∨ i = 14 ∨ i = 15 ∨ i = 16 ∨ i = 17 ∨ i = 18 ∨ i = 19 := by omega
  rcases h with rfl | rfl | rfl | rfl | rfl | rfl | rfl | rfl | rfl | rfl | rfl | rfl | rfl | rfl | rfl | rfl | rfl | rfl | rfl | rfl <;> simp only [Nat.reduceSub, Int.reducePow] <;> (apply propext; omega)
theorem turn_mod (t : Int) : turnC (t % 1048576) = turnC t := fold_congr fun j hj => dig_mod t (by omega)
theorem turn_more (t : Int) : turnC (t + 1048576) = turnC t := by
  rw [← turn_mod (t + 1048576), ← turn_mod t, Int.add_emod_right]
/-- Where the digits behind are all nought. -/
theorem dig_none {t : Int} {i j : Nat} (h : t % 2 ^ (19 - i) = 0) (hij : i < j) (hj : j < 20) : dig t j = false := by
  unfold dig
  obtain ⟨c, hc⟩ := Int.dvd_of_emod_eq_zero h
  have e : (2 : Int) ^ (19 - i) = 2 ^ (19 - j) * (2 * 2 ^ (j - i - 1)) := by
    rw [← Int.pow_succ', ← Int.pow_add]
    congr 1
    omega
  have hp : (0 : Int) < 2 ^ (19 - j) := Int.pow_pos (by omega)
  rw [decide_eq_false_iff_not, hc, e, Int.mul_assoc, Int.mul_ediv_cancel_left _ (by omega), Int.mul_assoc]
  omega
theorem num_op {op : BinOp} {x y z k : Nat} (h : floatBits op .f64 x y = some z) (b : Bd z k) (hk : k ≤ 1000) : opC op (some x) (some y) = some z := by
  show ((floatBits op .f64 x y).bind cl) = _
  rw [h]
  exact cl_num (b.num hk)
/-- A product of bounded numbers. -/
theorem mul_step {x y c d k : Nat} (hx : Bd x k) (hy : Bd y k) (hc : Bd c 1) (hd : Bd d 1) (hk : k ≤ 800) :
    ∃ a b p q r s, floatBits .mul .f64 x c = some a ∧ floatBits .mul .f64 y d = some b ∧ floatBits .mul .f64 x d = some r ∧ floatBits .mul .f64 y c = some s ∧ floatBits .sub .f64 a b = some p ∧ floatBits .add .f64 r s = some q ∧
      Bd a (k + 2) ∧ Bd b (k + 2) ∧ Bd r (k + 2) ∧ Bd s (k + 2) ∧ Bd p (k + 4) ∧ Bd q (k + 4) ∧ mulC (some x, some y) (some c, some d) = (some p, some q) := by
  obtain ⟨a, ha, ba⟩ := mul_bd hx hc (by omega) (by omega)
  obtain ⟨b, hb, bb⟩ := mul_bd hy hd (by omega) (by omega)
  obtain ⟨r, hr, br⟩ := mul_bd hx hd (by omega) (by omega)
  obtain ⟨s, hs, bs⟩ := mul_bd hy hc (by omega) (by omega)
  obtain ⟨p, hp, bp⟩ := sub_bd ba bb (by omega)
  obtain ⟨q, hq, bq⟩ := add_bd br bs (by omega)
  refine ⟨a, b, p, q, r, s, ha, hb, hr, hs, hp, hq, ba, bb, br, bs, bp, bq, ?_⟩
  unfold mulC mulRe mulIm
  simp only
  rw [num_op ha ba (by omega), num_op hb bb (by omega), num_op hr br (by omega), num_op hs bs (by omega), num_op hp bp (by omega), num_op hq bq (by omega)]
theorem fold_bd (t : Int) : ∀ i, i ≤ 20 → ∃ x y, foldT t i = (some x, some y) ∧ Bd x (1 + 4 * i) ∧ Bd y (1 + 4 * i)
  | 0, _ => ⟨4607182418800017408, 0, by (show (cl 4607182418800017408, cl 0) = _); decide +kernel, ⟨by omega, by decide⟩, ⟨by omega, by decide⟩⟩
  | i + 1, h => by
    obtain ⟨x, y, e, bx, by_⟩ := fold_bd t i (by omega)
    unfold foldT
    by_cases hd : dig t i = true
    · rw [if_pos hd, e, uC_tab i (by omega)]
      obtain ⟨b1, b2⟩ := uT_bd (i := i) (by omega)
      obtain ⟨_, _, p, q, _, _, _, _, _, _, _, _, _, _, _, _, bp, bq, hm⟩ := mul_step bx by_ b1 b2 (by omega)
      exact ⟨p, q, hm, bp.mono (by omega), bq.mono (by omega)⟩
    · rw [if_neg hd]
      exact ⟨x, y, e, bx.mono (by omega), by_.mono (by omega)⟩
theorem turn_bd (t : Int) : ∃ x y, turnC t = (some x, some y) ∧ Bd x 81 ∧ Bd y 81 := fold_bd t 20 (by omega)
theorem dig_half {t : Int} (h0 : 0 ≤ t) (h1 : t < 524288) {i : Nat} (hi : i < 20) : dig (t + 524288) i = if i = 0 then true else dig t i := by
  by_cases e : i = 0
  · subst e
    rw [if_pos rfl]
    unfold dig
    rw [decide_eq_true_eq]
    show (t + 524288) / 524288 % 2 = 1
    omega
  · rw [if_neg e]
    unfold dig
    congr 1
    have e2 : (524288 : Int) = 2 * 2 ^ (i - 1) * 2 ^ (19 - i) := by
      rw [Int.mul_assoc, ← Int.pow_add, ← Int.pow_succ', show i - 1 + (19 - i) + 1 = 19 by omega]; rfl
    have hp : (2 : Int) ^ (19 - i) ≠ 0 := Int.ne_of_gt (Int.pow_pos (by omega))
    rw [e2, Int.add_mul_ediv_right _ _ hp, Int.add_mul_emod_self_left]
theorem dig_zero {t : Int} (h0 : 0 ≤ t) (h1 : t < 524288) : dig t 0 = false := by
  unfold dig
  rw [decide_eq_false_iff_not]
  show ¬ t / 524288 % 2 = 1
  omega
theorem fold_opp {t : Int} (h0 : 0 ≤ t) (h1 : t < 524288) : ∀ i, i < 20 → ∃ x y x' y', foldT t (i + 1) = (some x, some y) ∧ foldT (t + 524288) (i + 1) = (some x', some y') ∧ Opp x x' ∧ Opp y y' ∧ Bd x (5 + 4 * i) ∧ Bd y (5 + 4 * i) ∧ Bd x' (5 + 4 * i) ∧ Bd y' (5 + 4 * i)
  | 0, _ => by
    refine ⟨4607182418800017408, 0, 13830554455654793216, 0, ?_, ?_, ⟨by decide, by decide⟩, ⟨by decide, by decide⟩, ⟨by omega, by decide⟩, ⟨by omega, by decide⟩, ⟨by omega, by decide⟩, ⟨by omega, by decide⟩⟩
    · show (if dig t 0 = true then mulC (foldT t 0) (uC 0) else foldT t 0) = _
      rw [dig_zero h0 h1, if_neg (by decide)]
      show (cl 4607182418800017408, cl 0) = _
      decide +kernel
    · show (if dig (t + 524288) 0 = true then mulC (foldT (t + 524288) 0) (uC 0) else foldT (t + 524288) 0) = _
      rw [dig_half h0 h1 (by omega), if_pos rfl, if_pos rfl]
      show mulC (cl 4607182418800017408, cl 0) (uC 0) = _
      decide +kernel
  | i + 1, h => by
    obtain ⟨x, y, x', y', e, e', ox, oy, bx, by_, bx', by'⟩ := fold_opp h0 h1 i (by omega)
    have hd := dig_half h0 h1 (i := i + 1) h
    rw [if_neg (by omega)] at hd
    have u1 : foldT t (i + 1 + 1) = if dig t (i + 1) = true then mulC (foldT t (i + 1)) (uC (i + 1)) else foldT t (i + 1) := rfl
    have u2 : foldT (t + 524288) (i + 1 + 1) = if dig (t + 524288) (i + 1) = true then mulC (foldT (t + 524288) (i + 1)) (uC (i + 1)) else foldT (t + 524288) (i + 1) := rfl
    rw [u1, u2, hd, e, e']
    by_cases g : dig t (i + 1) = true
    · rw [if_pos g, if_pos g, uC_tab (i + 1) h]
      obtain ⟨b1, b2⟩ := uT_bd (i := i + 1) h
      obtain ⟨a, b, p, q, r, s, ha, hb, hr, hs, hp, hq, ba, bb, br, bs, bp, bq, hm⟩ := mul_step bx by_ b1 b2 (by omega)
      obtain ⟨a', b', p', q', r', s', ha', hb', hr', hs', hp', hq', ba', bb', br', bs', bp', bq', hm'⟩ := mul_step bx' by' b1 b2 (by omega)
      have oa := mul_opp ox bx.1 bx'.1 b1.1 (bx.fin (by omega)) (b1.fin (by omega)) ha ha'
      have ob := mul_opp oy by_.1 by'.1 b2.1 (by_.fin (by omega)) (b2.fin (by omega)) hb hb'
      have o_r := mul_opp ox bx.1 bx'.1 b2.1 (bx.fin (by omega)) (b2.fin (by omega)) hr hr'
      have os := mul_opp oy by_.1 by'.1 b1.1 (by_.fin (by omega)) (b1.fin (by omega)) hs hs'
      have op := sub_opp oa ob ba.1 ba'.1 bb.1 bb'.1 (ba.fin (by omega)) (bb.fin (by omega)) hp hp'
      have oq := add_opp o_r os br.1 br'.1 bs.1 bs'.1 (br.fin (by omega)) (bs.fin (by omega)) hq hq'
      exact ⟨p, q, p', q', hm, hm', op, oq, bp.mono (by omega), bq.mono (by omega), bp'.mono (by omega), bq'.mono (by omega)⟩
    · rw [if_neg g, if_neg g]
      exact ⟨x, y, x', y', rfl, rfl, ox, oy, bx.mono (by omega), by_.mono (by omega), bx'.mono (by omega), by'.mono (by omega)⟩
theorem turn_half {t : Int} (h0 : 0 ≤ t) (h1 : t < 524288) : ∃ x y x' y', turnC t = (some x, some y) ∧ turnC (t + 524288) = (some x', some y') ∧ Opp x x' ∧ Opp y y' ∧ Bd x 81 ∧ Bd y 81 ∧ Bd x' 81 ∧ Bd y' 81 := by
  obtain ⟨x, y, x', y', a, b, c, d, e, f, g, i⟩ := fold_opp h0 h1 19 (by omega)
  exact ⟨x, y, x', y', a, b, c, d, e.mono (by omega), f.mono (by omega), g.mono (by omega), i.mono (by omega)⟩
theorem turn_0 : turnC 0 = (some 4607182418800017408, some 0) := by
  have h : foldT 0 20 = foldT 0 0 := by
    have := fold_rest (t := 0) (i := 0) (n := 20) (fun j _ hj => by unfold dig; simp)
    rw [Nat.zero_add] at this
    exact this
  unfold turnC
  rw [h]
  decide +kernel
end Go.Proofs.Ytbagaicbochmnaa
