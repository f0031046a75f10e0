/- Turns: the unit roots by classes, the product over a number's digits, its bounds, and half a turn more. No program's walk. Turns: contract of the specification's. -/
import Derived.Test.YtnpcldgacdgplaaZab
import Derived.Test.YtnpcldgacdgplaaOwn2
import Derived.Test.YtnpcldgacdgplaaKeeps
import Derived.Deep.DeepCutAuto
namespace Go.Proofs.Ytnpcldgacdgplaa
open Go.RowKit Fl
set_option linter.unusedVariables false
set_option linter.unusedSimpArgs false
/-- The next unit root by classes. -/
def stepX (u : Option Nat × Option Nat) : Option Nat := sqK (opC .quo (opC .add (cl 4607182418800017408) u.1) (cl 4611686018427387904))
def stepC (u : Option Nat × Option Nat) : Option Nat × Option Nat := (stepX u, opC .quo u.2 (opC .add (stepX u) (stepX u)))
def uC : Nat → Option Nat × Option Nat
  | 0 => (cl 13830554455654793216, cl 0)
  | 1 => (cl 0, cl 4607182418800017408)
  | i + 2 => stepC (uC (i + 1))
def uTab : List (Nat × Nat) := [(13830554455654793216, 0), (0, 4607182418800017408), (4604544271217802189, 4604544271217802188), (4606496786581982534, 4600565431771507042), (4607009347991985328, 4596196889902818826), (4607139046673687846, 4591727299969791019), (4607171569234046334, 4587232218149935123), (4607179706000002317, 4582730748936808061), (4607181740574479067, 4578227681973159812), (4607182249242036882, 4573724215515480177), (4607182376410422530, 4569220649180767418), (4607182408202612454, 4564717057876576045), (4607182416150665780, 4560213460330001248), (4607182418137679477, 4555709861222829734), (4607182418634432923, 4551206261725508988), (4607182418758621287, 4546702662130650929), (4607182418789668378, 4542199062511408542), (4607182418797430150, 4537695462886070074), (4607182418799370593, 4533191863259207585), (4607182418799855704, 4528688263631964091)]
def uT (i : Nat) : Nat × Nat := uTab.getD i (0, 0)
theorem tab_step : ∀ i : Fin 18, stepC (some (uT (i.val + 1)).1, some (uT (i.val + 1)).2) = (some (uT (i.val + 2)).1, some (uT (i.val + 2)).2) := by decide +kernel
theorem uC_tab : ∀ i, i < 20 → uC i = (some (uT i).1, some (uT i).2)
  | 0, _ => by decide +kernel
  | 1, _ => by decide +kernel
  | i + 2, h => by
    show stepC (uC (i + 1)) = _
    rw [uC_tab (i + 1) (by omega)]
    exact tab_step ⟨i, by omega⟩
theorem tab_bd : ∀ i : Fin 20, (uT i.val).1 < 18446744073709551616 ∧ (uT i.val).1 % 9223372036854775808 < 1024 * 4503599627370496 ∧ (uT i.val).2 < 18446744073709551616 ∧ (uT i.val).2 % 9223372036854775808 < 1024 * 4503599627370496 ∧ ((uT i.val).1 % 9223372036854775808 ≠ 0 ∨ (uT i.val).2 % 9223372036854775808 ≠ 0) := by decide +kernel
theorem uT_bd {i : Nat} (h : i < 20) : Bd (uT i).1 1 ∧ Bd (uT i).2 1 := by
  obtain ⟨h1, h2, h3, h4, _⟩ := tab_bd ⟨i, h⟩
  exact ⟨⟨h1, h2⟩, ⟨h3, h4⟩⟩
theorem uT_ne {i : Nat} (h : i < 20) : rg (uT i).1 ≠ 0 ∨ rg (uT i).2 ≠ 0 := (tab_bd ⟨i, h⟩).2.2.2.2
/-- The digit of t that belongs to the i-th root. -/
def dig (t : Int) (i : Nat) : Bool := decide (t / 2 ^ (19 - i) % 2 = 1)
def foldT (t : Int) : Nat → Option Nat × Option Nat
  | 0 => (cl 4607182418800017408, cl 0)
  | i + 1 => if dig t i = true then mulC (foldT t i) (uC i) else foldT t i
def turnC (t : Int) : Option Nat × Option Nat := foldT t 20
theorem fold_congr {t s : Int} : ∀ {i : Nat}, (∀ j, j < i → dig t j = dig s j) → foldT t i = foldT s i
  | 0, _ => rfl
  | i + 1, h => by
    unfold foldT
    rw [fold_congr (i := i) (fun j hj => h j (by omega)), h i (by omega)]
theorem fold_rest {t : Int} {i : Nat} : ∀ {n : Nat}, (∀ j, i ≤ j → j < i + n → dig t j = false) → foldT t (i + n) = foldT t i
  | 0, _ => rfl
  | n + 1, h => by
    show (if dig t (i + n) = true then mulC (foldT t (i + n)) (uC (i + n)) else foldT t (i + n)) = _
    rw [h (i + n) (by omega) (by omega), if_neg (by decide), fold_rest (fun j a b => h j a (by omega))]
theorem dig_mod (t : Int) {i : Nat} (hi : i < 20) : dig (t % 1048576) i = dig t i := by
  unfold dig
  congr 1
  have h : i = 0 ∨ i = 1 ∨ i = 2 ∨ i = 3 ∨ i = 4 ∨ i = 5 ∨ i = 6 ∨ i = 7 ∨ i = 8 ∨ i = 9 ∨ i = 10 ∨ i = 11 ∨ i = 12 ∨ i = 13 ∨ i = 14 ∨ i = 15 ∨ i = 16 ∨ i = 17 ∨ i = 18 ∨ i = 19 := by omega
  rcases h with rfl | rfl | rfl | rfl | rfl | rfl | rfl | rfl | rfl | rfl | rfl | rfl | rfl | rfl | rfl | rfl | rfl | rfl | rfl | rfl <;> simp only [Nat.reduceSub, Int.reducePow] <;> (apply propext; omega)
theorem turn_mod (t : Int) : turnC (t % 1048576) = turnC t := fold_congr fun j hj => dig_mod t (by omega)
theorem turn_more (t : Int) : turnC (t + 1048576) = turnC t := by
  rw [← turn_mod (t + 1048576), ← turn_mod t, Int.add_emod_right]
/-- Where the digits behind are all nought. -/
theorem dig_none {t : Int} {i j : Nat} (h : t % 2 ^ (19 - i) = 0) (hij : i < j) (hj : j < 20) : dig t j = false := by
  unfold dig
  obtain ⟨c, hc⟩ := Int.dvd_of_emod_eq_zero h
  have e : (2 : Int) ^ (19 - i) = 2 ^ (19 - j) * (2 * 2 ^ (j - i - 1)) := by
    rw [← Int.pow_succ', ← Int.pow_add]
    congr 1
    omega
  have hp : (0 : Int) < 2 ^ (19 - j) := Int.pow_pos (by omega)
  rw [decide_eq_false_iff_not, hc, e, Int.mul_assoc, Int.mul_ediv_cancel_left _ (by omega), Int.mul_assoc]
  omega
theorem num_op {op : BinOp} {x y z k : Nat} (h : floatBits op .f64 x y = some z) (b : Bd z k) (hk : k ≤ 1000) : opC op (some x) (some y) = some z := by
  show ((floatBits op .f64 x y).bind cl) = _
  rw [h]
  exact cl_num (b.num hk)
/-- A product of bounded numbers. -/
theorem mul_step {x y c d k : Nat} (hx : Bd x k) (hy : Bd y k) (hc : Bd c 1) (hd : Bd d 1) (hk : k ≤ 800) :
    ∃ a b p q r s, floatBits .mul .f64 x c = some a ∧ floatBits .mul .f64 y d = some b ∧ floatBits .mul .f64 x d = some r ∧ floatBits .mul .f64 y c = some s ∧ floatBits .sub .f64 a b = some p ∧ floatBits .add .f64 r s = some q ∧
      Bd a (k + 2) ∧ Bd b (k + 2) ∧ Bd r (k + 2) ∧ Bd s (k + 2) ∧ Bd p (k + 4) ∧ Bd q (k + 4) ∧ mulC (some x, some y) (some c, some d) = (some p, some q) := by
  obtain ⟨a, ha, ba⟩ := mul_bd hx hc (by omega) (by omega)
  obtain ⟨b, hb, bb⟩ := mul_bd hy hd (by omega) (by omega)
  obtain ⟨r, hr, br⟩ := mul_bd hx hd (by omega) (by omega)
  obtain ⟨s, hs, bs⟩ := mul_bd hy hc (by omega) (by omega)
  obtain ⟨p, hp, bp⟩ := sub_bd ba bb (by omega)
  obtain ⟨q, hq, bq⟩ := add_bd br bs (by omega)
  refine ⟨a, b, p, q, r, s, ha, hb, hr, hs, hp, hq, ba, bb, br, bs, bp, bq, ?_⟩
  unfold mulC mulRe mulIm
  simp only
  rw [num_op ha ba (by omega), num_op hb bb (by omega), num_op hr br (by omega), num_op hs bs (by omega), num_op hp bp (by omega), num_op hq bq (by omega)]
theorem fold_bd (t : Int) : ∀ i, i ≤ 20 → ∃ x y, foldT t i = (some x, some y) ∧ Bd x (1 + 4 * i) ∧ Bd y (1 + 4 * i)
  | 0, _ => ⟨4607182418800017408, 0, by (show (cl 4607182418800017408, cl 0) = _); decide +kernel, ⟨by omega, by decide⟩, ⟨by omega, by decide⟩⟩
  | i + 1, h => by
    obtain ⟨x, y, e, bx, by_⟩ := fold_bd t i (by omega)
    unfold foldT
    by_cases hd : dig t i = true
    · rw [if_pos hd, e, uC_tab i (by omega)]
      obtain ⟨b1, b2⟩ := uT_bd (i := i) (by omega)
      obtain ⟨_, _, p, q, _, _, _, _, _, _, _, _, _, _, _, _, bp, bq, hm⟩ := mul_step bx by_ b1 b2 (by omega)
      exact ⟨p, q, hm, bp.mono (by omega), bq.mono (by omega)⟩
    · rw [if_neg hd]
      exact ⟨x, y, e, bx.mono (by omega), by_.mono (by omega)⟩
theorem turn_bd (t : Int) : ∃ x y, turnC t = (some x, some y) ∧ Bd x 81 ∧ Bd y 81 := fold_bd t 20 (by omega)
theorem dig_half {t : Int} (h0 : 0 ≤ t) (h1 : t < 524288) {i : Nat} (hi : i < 20) : dig (t + 524288) i = if i = 0 then true else dig t i := by
  by_cases e : i = 0
  · subst e
    rw [if_pos rfl]
    unfold dig
    rw [decide_eq_true_eq]
    show (t + 524288) / 524288 % 2 = 1
    omega
  · rw [if_neg e]
    unfold dig
    congr 1
    have e2 : (524288 : Int) = 2 * 2 ^ (i - 1) * 2 ^ (19 - i) := by
      rw [Int.mul_assoc, ← Int.pow_add, ← Int.pow_succ', show i - 1 + (19 - i) + 1 = 19 by omega]; rfl
    have hp : (2 : Int) ^ (19 - i) ≠ 0 := Int.ne_of_gt (Int.pow_pos (by omega))
    rw [e2, Int.add_mul_ediv_right _ _ hp, Int.add_mul_emod_self_left]
theorem dig_zero {t : Int} (h0 : 0 ≤ t) (h1 : t < 524288) : dig t 0 = false := by
  unfold dig
  rw [decide_eq_false_iff_not]
  show ¬ t / 524288 % 2 = 1
  omega
theorem fold_opp {t : Int} (h0 : 0 ≤ t) (h1 : t < 524288) : ∀ i, i < 20 → ∃ x y x' y', foldT t (i + 1) = (some x, some y) ∧ foldT (t + 524288) (i + 1) = (some x', some y') ∧ Opp x x' ∧ Opp y y' ∧ Bd x (5 + 4 * i) ∧ Bd y (5 + 4 * i) ∧ Bd x' (5 + 4 * i) ∧ Bd y' (5 + 4 * i)
  | 0, _ => by
    refine ⟨4607182418800017408, 0, 13830554455654793216, 0, ?_, ?_, ⟨by decide, by decide⟩, ⟨by decide, by decide⟩, ⟨by omega, by decide⟩, ⟨by omega, by decide⟩, ⟨by omega, by decide⟩, ⟨by omega, by decide⟩⟩
    · show (if dig t 0 = true then mulC (foldT t 0) (uC 0) else foldT t 0) = _
      rw [dig_zero h0 h1, if_neg (by decide)]
      show (cl 4607182418800017408, cl 0) = _
      decide +kernel
    · show (if dig (t + 524288) 0 = true then mulC (foldT (t + 524288) 0) (uC 0) else foldT (t + 524288) 0) = _
      rw [dig_half h0 h1 (by omega), if_pos rfl, if_pos rfl]
      show mulC (cl 4607182418800017408, cl 0) (uC 0) = _
      decide +kernel
  | i + 1, h => by
    obtain ⟨x, y, x', y', e, e', ox, oy, bx, by_, bx', by'⟩ := fold_opp h0 h1 i (by omega)
    have hd := dig_half h0 h1 (i := i + 1) h
    rw [if_neg (by omega)] at hd
    have u1 : foldT t (i + 1 + 1) = if dig t (i + 1) = true then mulC (foldT t (i + 1)) (uC (i + 1)) else foldT t (i + 1) := rfl
    have u2 : foldT (t + 524288) (i + 1 + 1) = if dig (t + 524288) (i + 1) = true then mulC (foldT (t + 524288) (i + 1)) (uC (i + 1)) else foldT (t + 524288) (i + 1) := rfl
    rw [u1, u2, hd, e, e']
    by_cases g : dig t (i + 1) = true
    · rw [if_pos g, if_pos g, uC_tab (i + 1) h]
      obtain ⟨b1, b2⟩ := uT_bd (i := i + 1) h
      obtain ⟨a, b, p, q, r, s, ha, hb, hr, hs, hp, hq, ba, bb, br, bs, bp, bq, hm⟩ := mul_step bx by_ b1 b2 (by omega)
      obtain ⟨a', b', p', q', r', s', ha', hb', hr', hs', hp', hq', ba', bb', br', bs', bp', bq', hm'⟩ := mul_step bx' by' b1 b2 (by omega)
      have oa := mul_opp ox bx.1 bx'.1 b1.1 (bx.fin (by omega)) (b1.fin (by omega)) ha ha'
      have ob := mul_opp oy by_.1 by'.1 b2.1 (by_.fin (by omega)) (b2.fin (by omega)) hb hb'
      have o_r := mul_opp ox bx.1 bx'.1 b2.1 (bx.fin (by omega)) (b2.fin (by omega)) hr hr'
      have os := mul_opp oy by_.1 by'.1 b1.1 (by_.fin (by omega)) (b1.fin (by omega)) hs hs'
      have op := sub_opp oa ob ba.1 ba'.1 bb.1 bb'.1 (ba.fin (by omega)) (bb.fin (by omega)) hp hp'
      have oq := add_opp o_r os br.1 br'.1 bs.1 bs'.1 (br.fin (by omega)) (bs.fin (by omega)) hq hq'
      exact ⟨p, q, p', q', hm, hm', op, oq, bp.mono (by omega), bq.mono (by omega), bp'.mono (by omega), bq'.mono (by omega)⟩
    · rw [if_neg g, if_neg g]
      exact ⟨x, y, x', y', rfl, rfl, ox, oy, bx.mono (by omega), by_.mono (by omega), bx'.mono (by omega), by'.mono (by omega)⟩
theorem turn_half {t : Int} (h0 : 0 ≤ t) (h1 : t < 524288) : ∃ x y x' y', turnC t = (some x, some y) ∧ turnC (t + 524288) = (some x', some y') ∧ Opp x x' ∧ Opp y y' ∧ Bd x 81 ∧ Bd y 81 ∧ Bd x' 81 ∧ Bd y' 81 := by
  obtain ⟨x, y, x', y', a, b, c, d, e, f, g, i⟩ := fold_opp h0 h1 19 (by omega)
  exact ⟨x, y, x', y', a, b, c, d, e.mono (by omega), f.mono (by omega), g.mono (by omega), i.mono (by omega)⟩
theorem turn_0 : turnC 0 = (some 4607182418800017408, some 0) := by
  have h : foldT 0 20 = foldT 0 0 := by
    have := fold_rest (t := 0) (i := 0) (n := 20) (fun j _ hj => by unfold dig; simp)
    rw [Nat.zero_add] at this
    exact this
  unfold turnC
  rw [h]
  decide +kernel
end Go.Proofs.Ytnpcldgacdgplaa
namespace Go.Proofs.Ytnpcldgacdgplaa
open Go.RowKit Fl
set_option linter.unusedVariables false
set_option linter.unusedSimpArgs false
/-- Three blocks of a call's own. -/
structure Thr (B : Nat) (X : World) (r s u n : Nat) (t : TypeId) (W : World) : Prop where
  two : Two B X r s n t W
  c : Own B X u n t W
  n1 : r ≠ u
  n2 : s ≠ u
namespace Thr
variable {B : Nat} {X W : World} {r s u n : Nat} {t : TypeId}
theorem drewN (h : Thr B X r s u n t W) (q : Nat) : Thr B X r s u n t (W.drewN q) := ⟨h.two.drewN q, h.c.drewN q, h.n1, h.n2⟩
theorem opW (h : Thr B X r s u n t W) (op : BinOp) (x y : Nat) : Thr B X r s u n t (Fl.opW op x y W) := by
  obtain ⟨q, hq⟩ := opW_drewN op x y W
  rw [hq]; exact h.drewN q
theorem call (h : Thr B X r s u n t W) {W' : World} (k : Below W.heap.size W W') : Thr B X r s u n t W' := ⟨h.two.call k, h.c.call k, h.n1, h.n2⟩
theorem setA (h : Thr B X r s u n t W) (j : Nat) (v : Value) : Thr B X r s u n t (W.setCell ⟨r, j, none⟩ v) := ⟨h.two.setA j v, h.c.setOther h.two.a.lower h.n1.symm v, h.n1, h.n2⟩
theorem setB (h : Thr B X r s u n t W) (j : Nat) (v : Value) : Thr B X r s u n t (W.setCell ⟨s, j, none⟩ v) := ⟨h.two.setB j v, h.c.setOther h.two.b.lower h.n2.symm v, h.n1, h.n2⟩
theorem setC (h : Thr B X r s u n t W) (j : Nat) (v : Value) : Thr B X r s u n t (W.setCell ⟨u, j, none⟩ v) := ⟨h.two.setOther h.c.lower h.n1 h.n2 v, h.c.set j v, h.n1, h.n2⟩
end Thr
theorem bit_int {T : Int} (h0 : 0 ≤ T) (h1 : T < 1048576) (k : Nat) : bits .and .i64 (T / 2 ^ k) 1 = T / 2 ^ k % 2 := by
  have hp : (0 : Int) < 2 ^ k := Int.pow_pos (by omega)
  have a0 : 0 ≤ T / 2 ^ k := Int.ediv_nonneg h0 (by omega)
  have a1 : T / 2 ^ k ≤ T := Int.ediv_le_self _ h0
  have hw : ∀ x : Int, 0 ≤ x → x < 2 ^ 63 → IntKind.i64.wrap x = x := fun x a b => by rw [IntKind.wrap_i64]; omega
  have := bits_mask .i64 63 (by decide) hw 1 (by omega) (T / 2 ^ k) a0 (by omega)
  rw [show (2 : Int) ^ 1 - 1 = 1 by decide, show (2 : Int) ^ 1 = 2 by decide] at this
  exact this
set_option maxHeartbeats 12800000 in
theorem sTurn_any (t : Int) (w : World) : ZV 71 #[.int .i64 t] w (turnC t) := by
  obtain ⟨T, hT⟩ : ∃ T, T = t % 1048576 := ⟨_, rfl⟩
  have hT0 : 0 ≤ T := by omega
  have hT1 : T < 1048576 := by omega
  have HT : Hid (turnC T = turnC t) := by rw [hT]; exact turn_mod t
  rw [← HT.out]
  obtain ⟨R, hR⟩ : ∃ R, R = t.tmod 1048576 := ⟨_, rfl⟩
  have HR : Hid ((0 ≤ R ∧ R = T) ∨ (R < 0 ∧ R + 1048576 = T)) := by
    have h1 := Int.mul_tdiv_add_tmod t 1048576
    rw [← hR] at h1
    have h2 : -1048576 < R := by rw [hR]; exact Int.lt_tmod_of_pos t (by omega)
    have h3 : R < 1048576 := by rw [hR]; exact Int.tmod_lt_of_pos t (by omega)
    by_cases h : 0 ≤ R
    · left; exact ⟨h, by omega⟩
    · right; exact ⟨by omega, by omega⟩
  clear HT hT
  unfold ZV
  have hst := st64
  have hadd := add_run
  have hquo := quo_run
  have hc1 := cell_opW
  have hc2 := frozen_opW
  obtain ⟨Y, hY⟩ : ∃ Y, Y = (((w.alloc (.cells #[.float .f64 0, .float .f64 0] 41)).alloc (.cells #[.float .f64 4607182418800017408, .float .f64 0] 41)).alloc (.cells #[.float .f64 13830554455654793216, .float .f64 0] 41)) := ⟨_, rfl⟩
  have h0 : Thr w.heap.size w w.heap.size (w.heap.size + 1) (w.heap.size + 1 + 1) 2 41 Y := by
    have h1 := own_made (X := w) (B := w.heap.size) (t := 41) #[.float .f64 0, .float .f64 0] (Nat.le_refl _)
    have h2 := own_made (X := w.alloc (.cells #[.float .f64 0, .float .f64 0] 41)) (B := w.heap.size) (t := 41) #[.float .f64 4607182418800017408, .float .f64 0] (by simp)
    have h3 := own_made (X := (w.alloc (.cells #[.float .f64 0, .float .f64 0] 41)).alloc (.cells #[.float .f64 4607182418800017408, .float .f64 0] 41)) (B := w.heap.size) (t := 41) #[.float .f64 13830554455654793216, .float .f64 0] (by simp; omega)
    rw [hY]
    refine ⟨⟨(h1.alloc _).alloc _, ?_, by omega⟩, ⟨h1.below.trans (h2.below.trans h3.below), by omega, ?_⟩, by omega, by omega⟩
    · have h4 : Own w.heap.size w (w.heap.size + 1) 2 41 ((w.alloc (.cells #[.float .f64 0, .float .f64 0] 41)).alloc (.cells #[.float .f64 4607182418800017408, .float .f64 0] 41)) := ⟨h1.below.trans h2.below, by omega, by have := h2.block; simpa using this⟩
      exact h4.alloc _
    · have := h3.block
      simpa using this
  have i0 : Y.cell? ⟨w.heap.size + 1, 0, none⟩ = some (.float .f64 4607182418800017408) := by rw [hY]; exact alloc_keeps (by simp)
  have i1 : Y.cell? ⟨w.heap.size + 1, 1, none⟩ = some (.float .f64 0) := by rw [hY]; exact alloc_keeps (by simp)
  have j0 : Y.cell? ⟨w.heap.size + 1 + 1, 0, none⟩ = some (.float .f64 13830554455654793216) := by rw [hY]; go_simp
  have j1 : Y.cell? ⟨w.heap.size + 1 + 1, 1, none⟩ = some (.float .f64 0) := by rw [hY]; go_simp
  go_enter Try.func71, Try.ntmps71
  go_upto_if 10 with fail
  rw [← hR]
  clear hR
  go_cut [0] from 11 to 12 (fun v wx => v = .int .i64 T ∧ wx = w.alloc (.cells #[.float .f64 0, .float .f64 0] 41))
  case first =>
    rcases HR.out with ⟨h1, h2⟩ | ⟨h1, h2⟩
    · obtain rfl := h2
      clear HR h0 i0 i1 j0 j1 hY
      go_wp2
      go_meet
      case rel => exact ⟨rfl, rfl⟩
    · clear HR h0 i0 i1 j0 j1 hY
      go_wp2
      go_meet
      case rel => exact ⟨by rw [← h2], rfl⟩
  case rest =>
  obtain ⟨rfl, rfl⟩ := hcut
  clear HR
  go_wp2_with fail
  rw [← hY]
  clear hY
  go_loopw [5] (fun i wr => ∃ (j x y a b : Nat) (K : Int), j ≤ 19 ∧ K = 19 - j ∧ i = .int .i64 K ∧ Thr w.heap.size w w.heap.size (w.heap.size + 1) (w.heap.size + 1 + 1) 2 41 wr ∧ wr.cell? ⟨w.heap.size + 1, 0, none⟩ = some (.float .f64 x) ∧ wr.cell? ⟨w.heap.size + 1, 1, none⟩ = some (.float .f64 y) ∧ wr.cell? ⟨w.heap.size + 1 + 1, 0, none⟩ = some (.float .f64 a) ∧ wr.cell? ⟨w.heap.size + 1 + 1, 1, none⟩ = some (.float .f64 b) ∧ Zc x y (foldT T j) ∧ Zc a b (uC j)) (fun i _ => (intOf i + 1).toNat)
  case atStart =>
    exact ⟨0, 4607182418800017408, 0, 13830554455654793216, 0, 19, by omega, by omega, rfl, h0, i0, i1, j0, j1, ⟨by omega, by omega, rfl⟩, ⟨by omega, by omega, rfl⟩⟩
  case round =>
    obtain ⟨j, x, y, a, b, K, hj, hK, rfl, ht, c0, c1, d0, d1, hz, hu⟩ := hrel
    clear h0 i0 i1 j0 j1
    obtain ⟨k, hk⟩ : ∃ k : Nat, K = k := ⟨K.toNat, by omega⟩
    subst hk
    have hjk : 19 - j = k := by omega
    have hk19 : k ≤ 19 := by omega
    have hB := bit_int hT0 hT1 k
    have HJ : Hid (19 - j = k ∧ j ≤ 19 ∧ (k : Int) = 19 - j) := ⟨hjk, hj, hK⟩
    have hk64 : (k : Int) ≤ 64 := by omega
    obtain ⟨P, hP⟩ : ∃ P : Int, P = 2 ^ k := ⟨_, rfl⟩
    have hP1 : 1 ≤ P := by rw [hP]; exact Int.pow_pos (by omega)
    have hP2 : P ≤ 524288 := by
      have h : (2 : Nat) ^ k ≤ 2 ^ 19 := Nat.pow_le_pow_right (by omega) (by omega)
      have h2 : ((2 ^ k : Nat) : Int) ≤ ((2 ^ 19 : Nat) : Int) := by omega
      rw [hP]
      simpa using h2
    have hw : wrap64 (2 ^ k) = P := by
      rw [← hP]
      unfold wrap64
      omega
    have HP : Hid (P = 2 ^ k) := hP
    have hone : Fc 4607182418800017408 (cl 4607182418800017408) := ⟨by omega, rfl⟩
    have htwo : Fc 4611686018427387904 (cl 4611686018427387904) := ⟨by omega, rfl⟩
    have hA : Fc a (uC j).1 := ⟨hu.lx, by rw [← hu.c]⟩
    have hBb : Fc b (uC j).2 := ⟨hu.ly, by rw [← hu.c]⟩
    have hfold : foldT T (j + 1) = if dig T j = true then mulC (foldT T j) (uC j) else foldT T j := rfl
    have hdig : dig T j = decide (T / 2 ^ k % 2 = 1) := by unfold dig; rw [hjk]
    clear hjk hK hP
    by_cases hd : T / 2 ^ k % 2 = 1
    · have HF : Hid (foldT T (j + 1) = mulC (foldT T j) (uC j)) := by
        rw [hdig, decide_eq_true hd, if_pos rfl] at hfold; exact hfold
      rw [hd] at hB
      clear hfold hdig hd
      go_wp2_with fail
      refine (sMul_any hz hu _).mono ?_
      rintro e w1 ⟨x1, y1, rfl, hz1, hb1⟩
      rw [← HF.out] at hz1
      have t1 : Thr w.heap.size w w.heap.size (w.heap.size + 1) (w.heap.size + 1 + 1) 2 41 w1 := Thr.call ht hb1
      have f0 := Own.cell t1.two.b (show 0 < 2 by omega)
      have f1 := Own.cell t1.two.b (show 1 < 2 by omega)
      have ff := fun j => Own.frozen t1.two.b j
      have v0 := old_cell hb1 ht.c.lt d0
      have v1 := old_cell hb1 ht.c.lt d1
      obtain ⟨U, hU⟩ : ∃ U, U = (w1.setCell ⟨w.heap.size + 1, 0, none⟩ (.float .f64 x1)).setCell ⟨w.heap.size + 1, 1, none⟩ (.float .f64 y1) := ⟨_, rfl⟩
      have hTU : Thr w.heap.size w w.heap.size (w.heap.size + 1) (w.heap.size + 1 + 1) 2 41 U := by rw [hU]; exact (t1.setB _ _).setB _ _
      have m0 : U.cell? ⟨w.heap.size + 1, 0, none⟩ = some (.float .f64 x1) := by rw [hU]; go_simp
      have m1 : U.cell? ⟨w.heap.size + 1, 1, none⟩ = some (.float .f64 y1) := by rw [hU]; go_simp
      have n0 : U.cell? ⟨w.heap.size + 1 + 1, 0, none⟩ = some (.float .f64 a) := by rw [hU]; go_simp
      have n1 : U.cell? ⟨w.heap.size + 1 + 1, 1, none⟩ = some (.float .f64 b) := by rw [hU]; go_simp
      clear ht c0 c1 d0 d1 hb1 t1
      go_upto_region 11 with fail
      rw [← hU]
      clear hU f0 f1 ff v0 v1
      have r0 := Own.cell hTU.two.a (show 0 < 2 by omega)
      have r1 := Own.cell hTU.two.a (show 1 < 2 by omega)
      have rf := fun j => Own.frozen hTU.two.a j
      have q0 := Own.frozen hTU.c
      by_cases hm : T % P = 0
      · have HE : Hid (turnC T = foldT T (j + 1)) := by
          obtain ⟨h1, h2, _⟩ := HJ.out
          have := fold_rest (t := T) (i := j + 1) (n := 19 - j) (fun i a b => dig_none (i := j) (by rw [h1, ← HP.out]; exact hm) (by omega) (by omega))
          unfold turnC
          rw [show j + 1 + (19 - j) = 20 by omega] at this
          exact this
        clear HF hB
        go_wp2
        refine bodyPost_ret (v := Zv _ _) (by simp [results, Try.results71, go_sem, r0, r1] <;> first | exact ⟨rfl, rfl⟩ | rfl) rfl ⟨_, _, rfl, by rw [HE.out]; exact hz1, ((hTU.setA _ _).setA _ _).two.a.below⟩
      · have hk0 : k ≠ 0 := by
          intro e
          have h := HP.out
          rw [e] at h
          apply hm
          rw [h]
          omega
        by_cases h19 : k = 19
        · have hb19 : ((k : Int) == 19) = true := by rw [h19]; rfl
          have hj0 : j = 0 := by have := HJ.out; omega
          have HT2 : Hid (Thr w.heap.size w w.heap.size (w.heap.size + 1) (w.heap.size + 1 + 1) 2 41 ((U.setCell ⟨w.heap.size + 1 + 1, 0, none⟩ (.float .f64 0)).setCell ⟨w.heap.size + 1 + 1, 1, none⟩ (.float .f64 4607182418800017408))) := (hTU.setC _ _).setC _ _
          have HK : Hid (k = 19) := h19
          clear HF hB hTU r0 r1 rf hk0 h19
          go_wp2
          go_roundw
          case rel => exact ⟨1, x1, y1, 0, 4607182418800017408, (k : Int) - 1, by omega, by have := HK.out; omega, by simp, HT2.out, by go_simp, by go_simp, by go_simp, by go_simp, by rw [hj0] at hz1; exact hz1, ⟨by omega, by omega, rfl⟩⟩
          case measure => simp [intOf]
        · have h19' : ¬ (k : Int) = 19 := by omega
          have hb19 : ((k : Int) == 19) = false := by simpa using h19'
          clear HF hB r0 r1 rf
          go_wp2_with fail
          refine (sSqrt_fc (fc_op .quo (fc_op .add hone hA _) htwo _) _).mono ?_
          rintro e w3 ⟨xx, q, rfl, hX, hw3⟩
          have t3 : Thr w.heap.size w w.heap.size (w.heap.size + 1) (w.heap.size + 1 + 1) 2 41 w3 := by rw [hw3]; exact ((hTU.opW _ _ _).opW _ _ _).drewN _
          have g0 : w3.cell? ⟨w.heap.size + 1, 0, none⟩ = some (.float .f64 x1) := by rw [hw3]; simp only [World.cell?_drewN, cell_opW]; exact m0
          have g1 : w3.cell? ⟨w.heap.size + 1, 1, none⟩ = some (.float .f64 y1) := by rw [hw3]; simp only [World.cell?_drewN, cell_opW]; exact m1
          have l0 : w3.cell? ⟨w.heap.size + 1 + 1, 0, none⟩ = some (.float .f64 a) := by rw [hw3]; simp only [World.cell?_drewN, cell_opW]; exact n0
          have l1 : w3.cell? ⟨w.heap.size + 1 + 1, 1, none⟩ = some (.float .f64 b) := by rw [hw3]; simp only [World.cell?_drewN, cell_opW]; exact n1
          have lf := fun j => Own.frozen t3.c j
          have HT3 : Hid (Thr w.heap.size w w.heap.size (w.heap.size + 1) (w.heap.size + 1 + 1) 2 41 w3) := t3
          clear hw3 m0 m1 n0 n1 q0 hTU t3
          go_wp2
          go_roundw
          case rel =>
            obtain ⟨i, hi⟩ : ∃ i, j = i + 1 := ⟨j - 1, by have := HJ.out; omega⟩
            refine ⟨j + 1, x1, y1, xx, opV .quo b (opV .add xx xx w3) (opW .add xx xx w3), (k : Int) - 1, by have := HJ.out; omega, by have := HJ.out; omega, by simp, ?_, by go_simp, by go_simp, by go_simp, by go_simp, hz1, ?_⟩
            · exact (((HT3.out.opW _ _ _).opW _ _ _).setC _ _).setC _ _
            · have hq := fc_op .quo hBb (fc_op .add hX hX w3) (opW .add xx xx w3)
              refine ⟨hX.lx, hq.lx, ?_⟩
              rw [hX.c, hq.c, hi]
              rfl
          case measure => simp [intOf]
    · have HF : Hid (foldT T (j + 1) = foldT T j) := by
        rw [hdig, decide_eq_false hd, if_neg (by decide)] at hfold; exact hfold
      have hd0 : T / 2 ^ k % 2 = 0 := by omega
      rw [hd0] at hB
      have hz1 : Zc x y (foldT T (j + 1)) := by rw [HF.out]; exact hz
      have hTU := ht
      have m0 := c0
      have m1 := c1
      have n0 := d0
      have n1 := d1
      clear hfold hdig hd hd0 ht c0 c1 d0 d1
      go_upto_region 11 with fail
      have r0 := Own.cell hTU.two.a (show 0 < 2 by omega)
      have r1 := Own.cell hTU.two.a (show 1 < 2 by omega)
      have rf := fun j => Own.frozen hTU.two.a j
      have q0 := Own.frozen hTU.c
      by_cases hm : T % P = 0
      · have HE : Hid (turnC T = foldT T (j + 1)) := by
          obtain ⟨h1, h2, _⟩ := HJ.out
          have := fold_rest (t := T) (i := j + 1) (n := 19 - j) (fun i a b => dig_none (i := j) (by rw [h1, ← HP.out]; exact hm) (by omega) (by omega))
          unfold turnC
          rw [show j + 1 + (19 - j) = 20 by omega] at this
          exact this
        clear HF hB
        go_wp2
        refine bodyPost_ret (v := Zv _ _) (by simp [results, Try.results71, go_sem, r0, r1] <;> first | exact ⟨rfl, rfl⟩ | rfl) rfl ⟨_, _, rfl, by rw [HE.out]; exact hz1, ((hTU.setA _ _).setA _ _).two.a.below⟩
      · have hk0 : k ≠ 0 := by
          intro e
          have h := HP.out
          rw [e] at h
          apply hm
          rw [h]
          omega
        by_cases h19 : k = 19
        · have hb19 : ((k : Int) == 19) = true := by rw [h19]; rfl
          have hj0 : j = 0 := by have := HJ.out; omega
          have HT2 : Hid (Thr w.heap.size w w.heap.size (w.heap.size + 1) (w.heap.size + 1 + 1) 2 41 ((wr.setCell ⟨w.heap.size + 1 + 1, 0, none⟩ (.float .f64 0)).setCell ⟨w.heap.size + 1 + 1, 1, none⟩ (.float .f64 4607182418800017408))) := (hTU.setC _ _).setC _ _
          have HK : Hid (k = 19) := h19
          clear HF hB hTU r0 r1 rf hk0 h19
          go_wp2
          go_roundw
          case rel => exact ⟨1, x, y, 0, 4607182418800017408, (k : Int) - 1, by omega, by have := HK.out; omega, by simp, HT2.out, by go_simp, by go_simp, by go_simp, by go_simp, by rw [hj0] at hz1; exact hz1, ⟨by omega, by omega, rfl⟩⟩
          case measure => simp [intOf]
        · have h19' : ¬ (k : Int) = 19 := by omega
          have hb19 : ((k : Int) == 19) = false := by simpa using h19'
          clear HF hB r0 r1 rf
          go_wp2_with fail
          refine (sSqrt_fc (fc_op .quo (fc_op .add hone hA _) htwo _) _).mono ?_
          rintro e w3 ⟨xx, q, rfl, hX, hw3⟩
          have t3 : Thr w.heap.size w w.heap.size (w.heap.size + 1) (w.heap.size + 1 + 1) 2 41 w3 := by rw [hw3]; exact ((hTU.opW _ _ _).opW _ _ _).drewN _
          have g0 : w3.cell? ⟨w.heap.size + 1, 0, none⟩ = some (.float .f64 x) := by rw [hw3]; simp only [World.cell?_drewN, cell_opW]; exact m0
          have g1 : w3.cell? ⟨w.heap.size + 1, 1, none⟩ = some (.float .f64 y) := by rw [hw3]; simp only [World.cell?_drewN, cell_opW]; exact m1
          have l0 : w3.cell? ⟨w.heap.size + 1 + 1, 0, none⟩ = some (.float .f64 a) := by rw [hw3]; simp only [World.cell?_drewN, cell_opW]; exact n0
          have l1 : w3.cell? ⟨w.heap.size + 1 + 1, 1, none⟩ = some (.float .f64 b) := by rw [hw3]; simp only [World.cell?_drewN, cell_opW]; exact n1
          have lf := fun j => Own.frozen t3.c j
          have HT3 : Hid (Thr w.heap.size w w.heap.size (w.heap.size + 1) (w.heap.size + 1 + 1) 2 41 w3) := t3
          clear hw3 m0 m1 n0 n1 q0 hTU t3
          go_wp2
          go_roundw
          case rel =>
            obtain ⟨i, hi⟩ : ∃ i, j = i + 1 := ⟨j - 1, by have := HJ.out; omega⟩
            refine ⟨j + 1, x, y, xx, opV .quo b (opV .add xx xx w3) (opW .add xx xx w3), (k : Int) - 1, by have := HJ.out; omega, by have := HJ.out; omega, by simp, ?_, by go_simp, by go_simp, by go_simp, by go_simp, hz1, ?_⟩
            · exact (((HT3.out.opW _ _ _).opW _ _ _).setC _ _).setC _ _
            · have hq := fc_op .quo hBb (fc_op .add hX hX w3) (opW .add xx xx w3)
              refine ⟨hX.lx, hq.lx, ?_⟩
              rw [hX.c, hq.c, hi]
              rfl
          case measure => simp [intOf]
end Go.Proofs.Ytnpcldgacdgplaa
