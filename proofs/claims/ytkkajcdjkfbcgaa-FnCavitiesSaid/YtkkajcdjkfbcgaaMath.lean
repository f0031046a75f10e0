/- Plain arithmetic of fractions: greatest common divisors, lowest terms, no common divisor. No Go in sight. -/
namespace Go.Proofs.Ytkkajcdjkfbcgaa.Fm
theorem gcd_step (a b : Int) : Int.gcd b (a.tmod b) = Int.gcd a b := by
  unfold Int.gcd
  rw [Int.natAbs_tmod, Nat.gcd_comm a.natAbs b.natAbs, Nat.gcd_rec b.natAbs (a.natAbs), Nat.gcd_comm]
theorem gcd_pos (n d : Int) (h : d ≠ 0) : 1 ≤ Int.gcd n d := by
  have := Int.gcd_pos_of_ne_zero_right n h; omega
theorem gcd_le (n d : Int) (h : d ≠ 0) : (Int.gcd n d : Int) ≤ d.natAbs := by
  have := Nat.gcd_le_right (n := d.natAbs) n.natAbs (by omega)
  unfold Int.gcd; omega
theorem red_coprime (n d : Int) (h : d ≠ 0) : Int.gcd (n.tdiv (Int.gcd n d)) (d.tdiv (Int.gcd n d)) = 1 := by
  have hp := gcd_pos n d h
  have h1 := Nat.coprime_div_gcd_div_gcd (m := n.natAbs) (n := d.natAbs) (by unfold Int.gcd at hp; omega)
  unfold Int.gcd
  rw [Int.natAbs_tdiv, Int.natAbs_tdiv]
  exact h1
theorem same_iff (n d : Int) (h : 1 ≤ d) : (n.tdiv (Int.gcd n d) = n ∧ d.tdiv (Int.gcd n d) = d) ↔ Int.gcd n d = 1 := by
  constructor
  · rintro ⟨_, h2⟩
    have := red_coprime n d (by omega)
    have hp := gcd_pos n d (by omega)
    have e : d.tdiv (Int.gcd n d) * (Int.gcd n d) = d := Int.tdiv_mul_cancel (Int.gcd_dvd_right _ _)
    rw [h2] at e
    have : d * ((Int.gcd n d : Int) - 1) = 0 := by rw [Int.mul_sub]; omega
    rcases Int.mul_eq_zero.1 this with h3 | h3 <;> omega
  · intro e; rw [e]; simp
theorem cop_dvd (a b d : Int) (h1 : Int.gcd a b = 1) (h : b ∣ a * d) : b ∣ d := by
  have hc : Nat.Coprime b.natAbs a.natAbs := by unfold Nat.Coprime; rw [Nat.gcd_comm]; exact h1
  have h2 : b.natAbs ∣ a.natAbs * d.natAbs := by rw [← Int.natAbs_mul]; exact Int.natAbs_dvd_natAbs.2 h
  exact Int.natAbs_dvd_natAbs.1 (hc.dvd_of_dvd_mul_left h2)
theorem cross (a b c d : Int) (hb : 1 ≤ b) (hd : 1 ≤ d) (h1 : Int.gcd a b = 1) (h2 : Int.gcd c d = 1) (h : a * d = c * b) : a = c ∧ b = d := by
  have e1 : b ∣ d := by
    have : b ∣ a * d := ⟨c, by rw [h, Int.mul_comm]⟩
    exact cop_dvd _ _ _ h1 this
  have e2 : d ∣ b := by
    have : d ∣ c * b := ⟨a, by rw [← h, Int.mul_comm]⟩
    exact cop_dvd _ _ _ h2 this
  have e3 : b = d := Int.dvd_antisymm (by omega) (by omega) e1 e2
  subst e3
  exact ⟨Int.eq_of_mul_eq_mul_right (by omega) h, rfl⟩
theorem tdiv_bd (n : Int) (g : Nat) : (n.tdiv g).natAbs ≤ n.natAbs := by
  rw [Int.natAbs_tdiv]; exact Nat.div_le_self _ _
/-- Lowest terms of n by d: the upper number, the lower number. -/
def rN (n d : Int) : Int := if d < 0 then -(n.tdiv (Int.gcd n d)) else n.tdiv (Int.gcd n d)
def rD (n d : Int) : Int := if d < 0 then -(d.tdiv (Int.gcd n d)) else d.tdiv (Int.gcd n d)
theorem rN_neg {n d : Int} (h : d < 0) : rN n d = -(n.tdiv (Int.gcd n d)) := if_pos h
theorem rD_neg {n d : Int} (h : d < 0) : rD n d = -(d.tdiv (Int.gcd n d)) := if_pos h
theorem rN_pos {n d : Int} (h : 0 ≤ d) : rN n d = n.tdiv (Int.gcd n d) := if_neg (by omega)
theorem rD_pos {n d : Int} (h : 0 ≤ d) : rD n d = d / (Int.gcd n d) := by
  unfold rD; rw [if_neg (by omega), Int.tdiv_eq_ediv_of_nonneg h]
theorem r_cop (n d : Int) (h : d ≠ 0) : Int.gcd (rN n d) (rD n d) = 1 := by
  have := red_coprime n d h
  unfold rN rD
  split
  · rw [Int.neg_gcd, Int.gcd_neg]; exact this
  · exact this
theorem rN_bd (n d : Int) : (rN n d).natAbs ≤ n.natAbs := by
  have := tdiv_bd n (Int.gcd n d)
  unfold rN; split <;> omega
theorem rD_bd (n d : Int) : (rD n d).natAbs ≤ d.natAbs := by
  have := tdiv_bd d (Int.gcd n d)
  unfold rD; split <;> omega
theorem rD_ge (n d : Int) (h : d ≠ 0) : 1 ≤ rD n d := by
  have e : d.tdiv (Int.gcd n d) * (Int.gcd n d) = d := Int.tdiv_mul_cancel (Int.gcd_dvd_right _ _)
  have hp := gcd_pos n d h
  unfold rD
  split
  · rcases Int.lt_trichotomy (d.tdiv (Int.gcd n d)) 0 with h1 | h1 | h1
    · omega
    · rw [h1] at e; omega
    · have := Int.mul_pos h1 (show (0 : Int) < (Int.gcd n d : Int) by omega); omega
  · rcases Int.lt_trichotomy (d.tdiv (Int.gcd n d)) 0 with h1 | h1 | h1
    · have := Int.mul_neg_of_neg_of_pos h1 (show (0 : Int) < (Int.gcd n d : Int) by omega); omega
    · rw [h1] at e; omega
    · omega
theorem r_same (n d : Int) (h : 1 ≤ d) : (rN n d = n ∧ rD n d = d) ↔ Int.gcd n d = 1 := by
  rw [← same_iff n d h]
  unfold rN rD
  rw [if_neg (by omega), if_neg (by omega)]
end Go.Proofs.Ytkkajcdjkfbcgaa.Fm
