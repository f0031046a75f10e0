/- Finite floats: products and sums of bounded ones are bounded; of opposite ones, opposite. The unit roots and their products. Plain laws, no program. -/
import Derived.Test.YtgidoceflkdklaaCxAll
namespace Go.Proofs.Ytgidoceflkdklaa.Fl
open Ieee
set_option linter.unusedSimpArgs false
set_option linter.unusedVariables false
/-- The rung nearest to m * 2 ^ p. -/
def rungOf (m : Nat) (p : Int) : Nat := if m = 0 then 0 else
  min ((max (p + m.log2 - 52) (-1074) - (-1074)).toNat * 4503599627370496 + Toward.even.cut false (m <<< (p - max (p + m.log2 - 52) (-1074)).toNat) (max (p + m.log2 - 52) (-1074) - p).toNat) 9218868437227405312
theorem nearest_rung (neg : Bool) (m : Nat) (p : Int) : F neg m p = dW neg (rungOf m p) := by
  unfold F Format.nearest rungOf
  split
  · rfl
  · simp only [binade_eq, inf_eq, least_eq, frac_eq]
    rfl
theorem rungOf_le (m : Nat) (p : Int) : rungOf m p ≤ 9218868437227405312 := by
  unfold rungOf
  split
  · omega
  · exact Nat.min_le_right _ _
theorem rungOf_zero (p : Int) : rungOf 0 p = 0 := by unfold rungOf; simp
theorem cut_le {m : Nat} (hm : m ≠ 0) {d : Nat} (h : m.log2 ≤ 52 + d) : Toward.even.cut false m d ≤ 9007199254740992 := by
  have h2 := Nat.lt_log2_self (n := m)
  unfold Toward.cut
  simp only
  generalize hg : 1 <<< min d (m.log2 + 2) = g
  have hb : ∀ b : Bool, b.toNat ≤ 1 := by decide
  have h3 : m / g < 9007199254740992 := by
    rw [Nat.shiftLeft_eq, Nat.one_mul] at hg
    rw [Nat.div_lt_iff_lt_mul (by rw [← hg]; exact Nat.pow_pos (by omega))]
    refine Nat.lt_of_lt_of_le h2 ?_
    rw [← hg, show (9007199254740992 : Nat) = 2 ^ 53 by decide, ← Nat.pow_add]
    exact Nat.pow_le_pow_right (by omega) (by omega)
  have := hb (decide (g < 2 * (m % g)) || (g == 2 * (m % g) && m / g % 2 == 1))
  omega
theorem log2_shift {m : Nat} (hm : m ≠ 0) (k : Nat) : (m <<< k).log2 = m.log2 + k := by
  rw [Nat.shiftLeft_eq]; exact log2_mul_pow hm k
theorem rungOf_lt {m : Nat} (hm : m ≠ 0) {p : Int} {K : Nat} (h : p + (m.log2 : Int) ≤ K) (hK : K ≤ 1000) : rungOf m p < (K + 1025) * 4503599627370496 := by
  unfold rungOf
  rw [if_neg hm]
  refine Nat.lt_of_le_of_lt (Nat.min_le_left _ _) ?_
  generalize hl : max (p + (m.log2 : Int) - 52) (-1074) = last
  have h1 : last ≤ K - 52 ∨ last = -1074 := by omega
  have h2 : p + (m.log2 : Int) - 52 ≤ last := by omega
  have hc : Toward.even.cut false (m <<< (p - last).toNat) (last - p).toNat ≤ 9007199254740992 := by
    refine cut_le (by rw [Nat.shiftLeft_eq]; exact Nat.mul_ne_zero hm (Nat.ne_of_gt (Nat.pow_pos (by omega)))) ?_
    rw [log2_shift hm]
    omega
  have h3 : (last - -1074).toNat ≤ K + 1022 := by omega
  have h4 := Nat.mul_le_mul_right 4503599627370496 h3
  omega
/-- A float of a size below 2 ^ k. -/
def Bd (x k : Nat) : Prop := x < 18446744073709551616 ∧ rg x < (k + 1023) * 4503599627370496
theorem Bd.fin {x k : Nat} (h : Bd x k) (hk : k ≤ 1000) : rg x < 9218868437227405312 := by
  refine Nat.lt_of_lt_of_le h.2 (Nat.le_trans (Nat.mul_le_mul_right 4503599627370496 (show k + 1023 ≤ 2023 by omega)) ?_)
  decide
theorem Bd.num {x k : Nat} (h : Bd x k) (hk : k ≤ 1000) : Num x := Nat.le_of_lt (h.fin hk)
theorem Bd.mono {x k l : Nat} (h : Bd x k) (hk : k ≤ l) : Bd x l := ⟨h.1, Nat.lt_of_lt_of_le h.2 (Nat.mul_le_mul_right _ (by omega))⟩
theorem Bd.place {x k : Nat} (h : Bd x k) : pl (rg x) + ((mg (rg x)).log2 : Int) ≤ (k : Int) - 1 ∨ mg (rg x) = 0 := by
  have h1 := h.2
  have h2 : (mg (rg x)).log2 ≤ 52 := log2_lt (by have := mg_lt (rg x); omega)
  unfold pl
  by_cases hs : rg x < 4503599627370496
  · rw [if_pos hs]
    by_cases h0 : mg (rg x) = 0
    · exact Or.inr h0
    · left
      omega
  · rw [if_neg hs]
    left
    have : rg x / 4503599627370496 < k + 1023 := by
      rw [Nat.div_lt_iff_lt_mul (by omega)]; exact h1
    omega
theorem dW_rg {s : Bool} {r : Nat} (h : r < 9223372036854775808) : rg (dW s r) = r := (read_parts s h).2
theorem dW_sg {s : Bool} {r : Nat} (h : r < 9223372036854775808) : sg (dW s r) = s := by
  cases s
  · rw [dW_false]; unfold sg; exact decide_eq_false (by omega)
  · rw [dW_true]; unfold sg; exact decide_eq_true (by omega)
theorem read_fin {x : Nat} (hx : x < 18446744073709551616) (h : rg x < 9218868437227405312) : double.read x = .number (sg x) (mg (rg x)) (pl (rg x)) := by
  conv => lhs; rw [split_word hx]
  exact read_word _ h
theorem mul_fin {x y : Nat} (hx : x < 18446744073709551616) (hy : y < 18446744073709551616) (fx : rg x < 9218868437227405312) (fy : rg y < 9218868437227405312) :
    floatBits .mul .f64 x y = some (dW (sg x ^^ sg y) (rungOf (mg (rg x) * mg (rg y)) (pl (rg x) + pl (rg y)))) := by
  show double.mul x y = _
  unfold Format.mul
  rw [read_fin hx fx, read_fin hy fy]
  simp only [Datum.product, Option.map_some, Format.write]
  rw [← nearest_rung]
/-- What is added. -/
def tot (s : Bool) (r : Nat) (t : Bool) (q : Nat) : Int := signed s (mg r) (pl r - min (pl r) (pl q)).toNat + signed t (mg q) (pl q - min (pl r) (pl q)).toNat
def sumW (s : Bool) (r : Nat) (t : Bool) (q : Nat) : Nat := dW (if tot s r t q = 0 then s && t else decide (tot s r t q < 0)) (rungOf (tot s r t q).natAbs (min (pl r) (pl q)))
theorem add_fin {x y : Nat} (hx : x < 18446744073709551616) (hy : y < 18446744073709551616) (fx : rg x < 9218868437227405312) (fy : rg y < 9218868437227405312) :
    floatBits .add .f64 x y = some (sumW (sg x) (rg x) (sg y) (rg y)) := by
  show double.add x y = _
  unfold Format.add
  rw [read_fin hx fx, read_fin hy fy]
  simp only [Datum.sum, Option.map_some, Format.write]
  unfold sumW
  rw [← nearest_rung]
  rfl
theorem sub_fin {x y : Nat} (hx : x < 18446744073709551616) (hy : y < 18446744073709551616) (fx : rg x < 9218868437227405312) (fy : rg y < 9218868437227405312) :
    floatBits .sub .f64 x y = some (sumW (sg x) (rg x) (!sg y) (rg y)) := by
  show double.sub x y = _
  unfold Format.sub
  rw [read_fin hx fx, read_fin hy fy]
  simp only [Datum.opposite, Datum.sum, Option.map_some, Format.write]
  unfold sumW
  rw [← nearest_rung]
  rfl
theorem signed_abs (s : Bool) (m u : Nat) : (signed s m u).natAbs = m * 2 ^ u := by
  unfold signed
  rw [Nat.shiftLeft_eq]
  cases s <;> simp [Int.natAbs_mul, Int.natAbs_pow]
theorem Bd.size {x k : Nat} (h : Bd x k) {b : Int} (hb : b ≤ pl (rg x)) (hk : b ≤ k) : mg (rg x) * 2 ^ (pl (rg x) - b).toNat < 2 ^ ((k : Int) - b).toNat := by
  rcases h.place with h1 | h1
  · have h2 := Nat.lt_log2_self (n := mg (rg x))
    have h3 : (mg (rg x)).log2 + 1 + (pl (rg x) - b).toNat ≤ ((k : Int) - b).toNat := by omega
    refine Nat.lt_of_lt_of_le (Nat.mul_lt_mul_of_pos_right h2 (Nat.pow_pos (by omega))) ?_
    rw [← Nat.pow_add]
    exact Nat.pow_le_pow_right (by omega) h3
  · rw [h1, Nat.zero_mul]
    exact Nat.pow_pos (by omega)
theorem bd_word {s : Bool} {m : Nat} {p : Int} {K : Nat} (h : m = 0 ∨ p + (m.log2 : Int) ≤ K) (hK : K ≤ 900) : Bd (dW s (rungOf m p)) (K + 2) := by
  have hl := rungOf_le m p
  refine ⟨dW_lt s (by omega), ?_⟩
  rw [dW_rg (by omega)]
  by_cases hm : m = 0
  · rw [hm, rungOf_zero]
    omega
  · rcases h with h | h
    · exact absurd h hm
    · exact Nat.lt_of_lt_of_le (rungOf_lt hm h (by omega)) (Nat.mul_le_mul_right _ (by omega))
theorem log2_mul_le {a b : Nat} (ha : a ≠ 0) (hb : b ≠ 0) : (a * b).log2 ≤ a.log2 + b.log2 + 1 := by
  have h1 := Nat.lt_log2_self (n := a)
  have h2 := Nat.lt_log2_self (n := b)
  have h3 : a * b < 2 ^ (a.log2 + 1 + (b.log2 + 1)) := by
    rw [Nat.pow_add]
    exact Nat.mul_lt_mul'' h1 h2
  have h4 := Nat.log2_lt (Nat.mul_ne_zero ha hb) |>.2 h3
  omega
theorem mul_bd {x y i j : Nat} (hx : Bd x i) (hy : Bd y j) (hi : i + j ≤ 900) (h1 : 1 ≤ i + j) : ∃ z, floatBits .mul .f64 x y = some z ∧ Bd z (i + j + 1) := by
  refine ⟨_, mul_fin hx.1 hy.1 (hx.fin (by omega)) (hy.fin (by omega)), ?_⟩
  have := bd_word (s := sg x ^^ sg y) (m := mg (rg x) * mg (rg y)) (p := pl (rg x) + pl (rg y)) (K := i + j - 1) ?_ (by omega)
  · exact this.mono (by omega)
  · rcases hx.place with a | a
    · rcases hy.place with b | b
      · by_cases za : mg (rg x) = 0
        · left; rw [za, Nat.zero_mul]
        · by_cases zb : mg (rg y) = 0
          · left; rw [zb, Nat.mul_zero]
          · right
            have := log2_mul_le za zb
            omega
      · left; rw [b, Nat.mul_zero]
    · left; rw [a, Nat.zero_mul]
theorem sum_bd {x y k : Nat} (hx : Bd x k) (hy : Bd y k) (hk : k ≤ 900) (s t : Bool) : Bd (sumW s (rg x) t (rg y)) (k + 2) := by
  unfold sumW
  refine bd_word ?_ hk
  by_cases h0 : (tot s (rg x) t (rg y)).natAbs = 0
  · exact Or.inl h0
  right
  have hpx := pl_le (hx.fin (by omega))
  have hpy := pl_le (hy.fin (by omega))
  have hgx := pl_ge (rg x)
  have hgy := pl_ge (rg y)
  generalize hb : min (pl (rg x)) (pl (rg y)) = b
  by_cases hbk : b ≤ k
  · have h1 := hx.size (b := b) (by omega) hbk
    have h2 := hy.size (b := b) (by omega) hbk
    have h3 : (tot s (rg x) t (rg y)).natAbs ≤ mg (rg x) * 2 ^ (pl (rg x) - b).toNat + mg (rg y) * 2 ^ (pl (rg y) - b).toNat := by
      unfold tot
      rw [hb]
      refine Nat.le_trans (Int.natAbs_add_le _ _) ?_
      rw [signed_abs, signed_abs]
      exact Nat.le_refl _
    have h4 : (tot s (rg x) t (rg y)).natAbs < 2 ^ (((k : Int) - b).toNat + 1) := by
      rw [Nat.pow_succ]; omega
    have h5 := Nat.log2_lt h0 |>.2 h4
    omega
  · exfalso
    apply h0
    have e1 : mg (rg x) = 0 := by
      rcases hx.place with a | a
      · omega
      · exact a
    have e2 : mg (rg y) = 0 := by
      rcases hy.place with a | a
      · omega
      · exact a
    unfold tot
    rw [e1, e2]
    simp [signed]
theorem add_bd {x y k : Nat} (hx : Bd x k) (hy : Bd y k) (hk : k ≤ 900) : ∃ z, floatBits .add .f64 x y = some z ∧ Bd z (k + 2) :=
  ⟨_, add_fin hx.1 hy.1 (hx.fin (by omega)) (hy.fin (by omega)), sum_bd hx hy hk _ _⟩
theorem sub_bd {x y k : Nat} (hx : Bd x k) (hy : Bd y k) (hk : k ≤ 900) : ∃ z, floatBits .sub .f64 x y = some z ∧ Bd z (k + 2) :=
  ⟨_, sub_fin hx.1 hy.1 (hx.fin (by omega)) (hy.fin (by omega)), sum_bd hx hy hk _ _⟩
/-- The same size, the other sign (of noughts any). -/
def Opp (x y : Nat) : Prop := rg x = rg y ∧ (rg x ≠ 0 → sg x = !sg y)
theorem mg_zero : mg 0 = 0 := by decide
theorem opp_signed {x y : Nat} (h : Opp x y) (u : Nat) : signed (sg y) (mg (rg y)) u = -signed (sg x) (mg (rg x)) u := by
  rw [← h.1]
  by_cases h0 : rg x = 0
  · rw [h0, mg_zero]; simp [signed]
  · have := h.2 h0
    rw [this]
    unfold signed
    cases sg y <;> simp
theorem signed_flip (s : Bool) (m u : Nat) : signed (!s) m u = -signed s m u := by
  unfold signed
  cases s <;> simp
theorem opp_word {s t : Bool} {r : Nat} (hr : r < 9223372036854775808) (h : r ≠ 0 → s = !t) : Opp (dW s r) (dW t r) := by
  refine ⟨by rw [dW_rg hr, dW_rg hr], fun h0 => ?_⟩
  rw [dW_rg hr] at h0
  rw [dW_sg hr, dW_sg hr]
  exact h h0
theorem mul_opp {x x' y : Nat} (h : Opp x x') (hx : x < 18446744073709551616) (hx' : x' < 18446744073709551616) (hy : y < 18446744073709551616) (fx : rg x < 9218868437227405312) (fy : rg y < 9218868437227405312) {z z' : Nat}
    (hz : floatBits .mul .f64 x y = some z) (hz' : floatBits .mul .f64 x' y = some z') : Opp z z' := by
  rw [mul_fin hx hy fx fy] at hz
  rw [mul_fin hx' hy (by rw [← h.1]; exact fx) fy, ← h.1] at hz'
  obtain rfl := Option.some.inj hz
  obtain rfl := Option.some.inj hz'
  have hl := rungOf_le (mg (rg x) * mg (rg y)) (pl (rg x) + pl (rg y))
  refine opp_word (by omega) fun h0 => ?_
  have : rg x ≠ 0 := by
    intro e
    apply h0
    rw [e, mg_zero, Nat.zero_mul, rungOf_zero]
  rw [h.2 this]
  cases sg x' <;> cases sg y <;> rfl
theorem sumW_opp {s r t q : _} {s' t' : Bool} (h : tot s' r t' q = -tot s r t q) : Opp (sumW s r t q) (sumW s' r t' q) := by
  unfold sumW
  rw [h, Int.natAbs_neg]
  have hl := rungOf_le (tot s r t q).natAbs (min (pl r) (pl q))
  refine opp_word (by omega) fun h0 => ?_
  have : tot s r t q ≠ 0 := by
    intro e
    apply h0
    rw [e]
    exact rungOf_zero _
  rw [if_neg this, if_neg (by omega)]
  by_cases hn : tot s r t q < 0
  · rw [decide_eq_true hn, decide_eq_false (by omega)]; rfl
  · rw [decide_eq_false hn, decide_eq_true (by omega)]; rfl
theorem add_opp {x x' y y' : Nat} (h : Opp x x') (k : Opp y y') (hx : x < 18446744073709551616) (hx' : x' < 18446744073709551616) (hy : y < 18446744073709551616) (hy' : y' < 18446744073709551616) (fx : rg x < 9218868437227405312) (fy : rg y < 9218868437227405312) {z z' : Nat}
    (hz : floatBits .add .f64 x y = some z) (hz' : floatBits .add .f64 x' y' = some z') : Opp z z' := by
  rw [add_fin hx hy fx fy] at hz
  rw [add_fin hx' hy' (by rw [← h.1]; exact fx) (by rw [← k.1]; exact fy)] at hz'
  obtain rfl := Option.some.inj hz
  obtain rfl := Option.some.inj hz'
  rw [← h.1, ← k.1]
  refine sumW_opp ?_
  unfold tot
  have e1 := opp_signed h (pl (rg x) - min (pl (rg x)) (pl (rg y))).toNat
  have e2 := opp_signed k (pl (rg y) - min (pl (rg x)) (pl (rg y))).toNat
  rw [← h.1] at e1
  rw [← k.1] at e2
  rw [e1, e2]
  omega
theorem sub_opp {x x' y y' : Nat} (h : Opp x x') (k : Opp y y') (hx : x < 18446744073709551616) (hx' : x' < 18446744073709551616) (hy : y < 18446744073709551616) (hy' : y' < 18446744073709551616) (fx : rg x < 9218868437227405312) (fy : rg y < 9218868437227405312) {z z' : Nat}
    (hz : floatBits .sub .f64 x y = some z) (hz' : floatBits .sub .f64 x' y' = some z') : Opp z z' := by
  rw [sub_fin hx hy fx fy] at hz
  rw [sub_fin hx' hy' (by rw [← h.1]; exact fx) (by rw [← k.1]; exact fy)] at hz'
  obtain rfl := Option.some.inj hz
  obtain rfl := Option.some.inj hz'
  rw [← h.1, ← k.1]
  refine sumW_opp ?_
  unfold tot
  have e1 := opp_signed h (pl (rg x) - min (pl (rg x)) (pl (rg y))).toNat
  have e2 := opp_signed k (pl (rg y) - min (pl (rg x)) (pl (rg y))).toNat
  rw [← h.1] at e1
  rw [← k.1] at e2
  rw [signed_flip, signed_flip, e1, e2]
  omega
end Go.Proofs.Ytgidoceflkdklaa.Fl
