/- Residues: sums, products, powers, roots; matrices over residues and how they are cleared: plain laws, no program. -/
namespace Go.Proofs.Ytboppklcmdfphaa.Rm

def md (a : Int) : Int := a % 998244353
theorem md_lo (a : Int) : 0 ≤ md a := by unfold md; omega
theorem md_hi (a : Int) : md a < 998244353 := by unfold md; omega
theorem md_id {a : Int} (h0 : 0 ≤ a) (h1 : a < 998244353) : md a = a := by unfold md; omega
theorem md_tm_pos {a : Int} (h : 0 ≤ a) : a.tmod 998244353 = md a := Int.tmod_eq_emod_of_nonneg h
theorem md_tm_neg {a : Int} (h : a < 0) : a.tmod 998244353 = -(md (-a)) := by
  have h1 := md_tm_pos (a := -a) (by omega)
  rw [Int.neg_tmod] at h1
  omega
theorem md_neg (a : Int) : md (-a) = if md a = 0 then 0 else 998244353 - md a := by
  unfold md; split <;> omega
/-- What the language's remainder comes to. -/
theorem md_of_tmod (a : Int) : (if a.tmod 998244353 < 0 then a.tmod 998244353 + 998244353 else a.tmod 998244353) = md a := by
  by_cases h : 0 ≤ a
  · rw [md_tm_pos h, if_neg (by have := md_lo a; omega)]
  · rw [md_tm_neg (by omega)]
    have h1 := md_lo (-a)
    have h2 := md_hi (-a)
    unfold md at *
    split <;> omega
theorem tm_lo (a : Int) : -998244353 < a.tmod 998244353 := by
  by_cases h : 0 ≤ a
  · rw [md_tm_pos h]; have := md_lo a; omega
  · rw [md_tm_neg (by omega)]; have := md_hi (-a); omega
theorem tm_hi (a : Int) : a.tmod 998244353 < 998244353 := by
  by_cases h : 0 ≤ a
  · rw [md_tm_pos h]; have := md_hi a; omega
  · rw [md_tm_neg (by omega)]; have := md_lo (-a); omega

def addM (a b : Int) : Int := (md a + md b) % 998244353
def mulM (a b : Int) : Int := md a * md b % 998244353
theorem addM_lo (a b : Int) : 0 ≤ addM a b := by unfold addM; omega
theorem addM_hi (a b : Int) : addM a b < 998244353 := by unfold addM; omega
theorem mulM_lo (a b : Int) : 0 ≤ mulM a b := by unfold mulM; omega
theorem mulM_hi (a b : Int) : mulM a b < 998244353 := by unfold mulM; omega
theorem prod_lo (a b : Int) : 0 ≤ md a * md b := Int.mul_nonneg (md_lo a) (md_lo b)
theorem prod_hi (a b : Int) : md a * md b ≤ 996491786434412 * 1000 := by
  have h1 := md_lo a
  have h2 := md_hi a
  have h3 := md_lo b
  have h4 := md_hi b
  have h5 : md a * md b ≤ 998244352 * 998244352 := Int.mul_le_mul (by omega) (by omega) h3 (by omega)
  omega
theorem addM_eq (a b : Int) : addM a b = (a + b) % 998244353 := by unfold addM md; omega
theorem mulM_eq (a b : Int) : mulM a b = (a * b) % 998244353 := by unfold mulM md; rw [← Int.mul_emod]
theorem mulM_res {a b : Int} (h1 : 0 ≤ a) (h2 : a < 998244353) (h3 : 0 ≤ b) (h4 : b < 998244353) : mulM a b = a * b % 998244353 := by
  unfold mulM; rw [md_id h1 h2, md_id h3 h4]
theorem mul_hi {a b : Int} (h1 : 0 ≤ a) (h2 : a < 998244353) (h3 : 0 ≤ b) (h4 : b < 998244353) : 0 ≤ a * b ∧ a * b ≤ 996491786434412 * 1000 := by
  have := prod_lo a b
  have := prod_hi a b
  rw [md_id h1 h2, md_id h3 h4] at *
  omega

theorem pow_md (x : Int) : ∀ k : Nat, (x % 998244353) ^ k % 998244353 = x ^ k % 998244353
  | 0 => by simp
  | k + 1 => by
    rw [Int.pow_succ, Int.pow_succ, Int.mul_emod, pow_md x k, Int.emod_emod_of_dvd _ (Int.dvd_refl _), ← Int.mul_emod]
theorem mul_emod_r (a b : Int) : a * (b % 998244353) % 998244353 = a * b % 998244353 := by
  rw [Int.mul_emod, Int.emod_emod_of_dvd _ (Int.dvd_refl _), ← Int.mul_emod]
theorem mul_emod_l (a b : Int) : a % 998244353 * b % 998244353 = a * b % 998244353 := by
  rw [Int.mul_emod, Int.emod_emod_of_dvd _ (Int.dvd_refl _), ← Int.mul_emod]

def powM (a : Int) (n : Nat) : Int := a ^ n % 998244353
theorem powM_lo (a : Int) (n : Nat) : 0 ≤ powM a n := by unfold powM; omega
theorem powM_hi (a : Int) (n : Nat) : powM a n < 998244353 := by unfold powM; omega
/-- What a loop by squares still owes. -/
def owed (out x : Int) (n : Nat) : Int := out * x ^ n % 998244353
theorem owed_start (a : Int) (n : Nat) : owed 1 (md a) n = powM a n := by
  unfold owed powM md; rw [Int.one_mul, pow_md]
theorem owed_end {out x : Int} (h0 : 0 ≤ out) (h1 : out < 998244353) : owed out x 0 = out := by
  unfold owed; rw [Int.pow_zero, Int.mul_one]; omega
theorem owed_even (out x : Int) (n : Nat) (h : n % 2 = 0) : owed out (x * x % 998244353) (n / 2) = owed out x n := by
  unfold owed
  rw [← mul_emod_r, pow_md, mul_emod_r]
  have : n = 2 * (n / 2) := by omega
  conv => rhs; rw [this, Int.pow_mul]
  congr 3
  rw [Int.pow_succ, Int.pow_succ, Int.pow_zero, Int.one_mul]
theorem owed_odd (out x : Int) (n : Nat) (h : n % 2 = 1) : owed (out * x % 998244353) (x * x % 998244353) (n / 2) = owed out x n := by
  unfold owed
  rw [mul_emod_l, ← mul_emod_r, pow_md, mul_emod_r]
  have : n = 2 * (n / 2) + 1 := by omega
  conv => rhs; rw [this, Int.pow_succ, Int.pow_mul]
  congr 1
  rw [Int.mul_assoc, Int.mul_comm x]
  congr 3
  rw [Int.pow_succ, Int.pow_succ, Int.pow_zero, Int.one_mul]
/-- PowMod, whatever n. -/
def powI (a n : Int) : Int := if n < 0 then 0 else powM a n.toNat
theorem powI_neg {a n : Int} (h : n < 0) : powI a n = 0 := by simp [powI, h]
theorem powI_pos {a : Int} (n : Nat) : powI a n = powM a n := by simp [powI]; intro h; omega
theorem powI_lo (a n : Int) : 0 ≤ powI a n := by unfold powI; split <;> first | omega | exact powM_lo _ _
theorem powI_hi (a n : Int) : powI a n < 998244353 := by unfold powI; split <;> first | omega | exact powM_hi _ _
def invM (a : Int) : Int := powI a 998244351
/-- A root's square is the root of half the order. -/
theorem powM_sq (a : Int) (n : Nat) : mulM (powM a n) (powM a n) = powM a (n * 2) := by
  rw [mulM_eq]; unfold powM
  rw [← Int.mul_emod, Int.pow_mul, Int.pow_succ, Int.pow_succ, Int.pow_zero, Int.one_mul]
/-- (Prime - 1) / 2^k, halved k times. -/
def half : Nat → Nat | 0 => 998244352 | k + 1 => half k / 2
theorem half_le : ∀ k, half k ≤ 998244352
  | 0 => Nat.le_refl _
  | k + 1 => by have := half_le k; unfold half; omega
theorem half_up : ∀ k, k ≤ 23 → half (23 - k) = 119 * 2 ^ k := by decide
def rootI (k : Int) : Int := if k < 0 ∨ 23 < k then 0 else powM 3 (half k.toNat)

/-! ### Matrices -/
abbrev Mx := Nat → Nat → Int
/-- The sum over the first k products. -/
def dot (A B : Mx) (i j : Nat) : Nat → Int | 0 => 0 | k + 1 => addM (dot A B i j k) (mulM (A i k) (B k j))
theorem dot_lo (A B : Mx) (i j : Nat) : ∀ k, 0 ≤ dot A B i j k | 0 => by simp [dot] | k + 1 => addM_lo _ _
theorem dot_hi (A B : Mx) (i j : Nat) : ∀ k, dot A B i j k < 998244353 | 0 => by simp [dot] | k + 1 => addM_hi _ _

/-- The first of k rows from row c down whose column c is not 0; -1: none. -/
def pv (M : Mx) (c : Nat) : Nat → Int | 0 => -1 | k + 1 => if 0 ≤ pv M c k then pv M c k else if M (c + k) c = 0 then -1 else (c : Int) + k
theorem pv_lo (M : Mx) (c : Nat) : ∀ k, -1 ≤ pv M c k
  | 0 => by simp [pv]
  | k + 1 => by have := pv_lo M c k; unfold pv; split <;> first | assumption | (split <;> omega)
theorem pv_hi (M : Mx) (c : Nat) : ∀ k, pv M c k < c + k
  | 0 => by simp [pv]; omega
  | k + 1 => by have := pv_hi M c k; unfold pv; split <;> first | omega | (split <;> omega)
theorem pv_ge (M : Mx) (c : Nat) : ∀ k, 0 ≤ pv M c k → (c : Int) ≤ pv M c k
  | 0 => by simp [pv]
  | k + 1 => by
    have := pv_ge M c k
    unfold pv
    split
    · exact this
    · split <;> omega
theorem pv_stay (M : Mx) (c k : Nat) (h : 0 ≤ pv M c k) : ∀ m, pv M c (k + m) = pv M c k
  | 0 => rfl
  | m + 1 => by
    have := pv_stay M c k h m
    rw [← Nat.add_assoc, pv, this, if_pos h]
theorem pv_stay' (M : Mx) (c k n : Nat) (h : 0 ≤ pv M c k) (hk : k ≤ n) : pv M c n = pv M c k := by
  have := pv_stay M c k h (n - k)
  rwa [Nat.add_sub_cancel' hk] at this
theorem pv_ne (M : Mx) (c : Nat) : ∀ k, 0 ≤ pv M c k → M (pv M c k).toNat c ≠ 0
  | 0 => by simp [pv]
  | k + 1 => by
    have := pv_ne M c k
    unfold pv
    split
    · exact this
    · split
      · omega
      · rename_i h
        intro _
        rwa [show ((c : Int) + k).toNat = c + k from by omega]
def swp (M : Mx) (c t : Nat) : Mx := fun i => if i = c then M t else if i = t then M c else M i
def scl (M : Mx) (c : Nat) : Mx := fun i j => if i = c then mulM (M c j) (invM (M c c)) else M i j
def clr1 (M : Mx) (c i j : Nat) : Int := addM (M i j) (mulM (-(M i c)) (M c j))
def clr (M : Mx) (c : Nat) : Mx := fun i j => if i = c then M c j else clr1 M c i j
def el1 (M : Mx) (c t : Nat) : Mx := clr (scl (swp M c t) c) c
/-- The rows with c columns cleared; none: they can't be. -/
def elim (n : Nat) (M : Mx) : Nat → Option Mx
  | 0 => some M
  | c + 1 => (elim n M c).bind fun A => if pv A c (n - c) < 0 then none else some (el1 A c (pv A c (n - c)).toNat)
/-- Every number is a residue. -/
def Res (n m : Nat) (M : Mx) : Prop := ∀ i j, i < n → j < m → 0 ≤ M i j ∧ M i j < 998244353
theorem res_swp {n m c t : Nat} {M : Mx} (h : Res n m M) (hc : c < n) (ht : t < n) : Res n m (swp M c t) := by
  intro i j hi hj
  unfold swp
  split
  · exact h _ _ ht hj
  · split
    · exact h _ _ hc hj
    · exact h _ _ hi hj
theorem res_scl {n m c : Nat} {M : Mx} (h : Res n m M) : Res n m (scl M c) := by
  intro i j hi hj
  unfold scl
  split
  · exact ⟨mulM_lo _ _, mulM_hi _ _⟩
  · exact h _ _ hi hj
theorem res_clr {n m c : Nat} {M : Mx} (h : Res n m M) : Res n m (clr M c) := by
  intro i j hi hj
  unfold clr
  split
  · rename_i e; subst e; exact h _ _ hi hj
  · exact ⟨addM_lo _ _, addM_hi _ _⟩
theorem res_el1 {n m c t : Nat} {M : Mx} (h : Res n m M) (hc : c < n) (ht : t < n) : Res n m (el1 M c t) := res_clr (res_scl (res_swp h hc ht))
theorem res_elim {n m : Nat} {M : Mx} (h : Res n m M) : ∀ c, c ≤ n → ∀ A, elim n M c = some A → Res n m A
  | 0, _, A, e => by simp [elim] at e; subst e; exact h
  | c + 1, hc, A, e => by
    unfold elim at e
    cases hA : elim n M c with
    | none => rw [hA] at e; simp at e
    | some A0 =>
      rw [hA] at e
      simp only [Option.bind_some] at e
      split at e
      · simp at e
      · rename_i hp
        simp only [Option.some.injEq] at e
        subst e
        have := pv_hi A0 c (n - c)
        exact res_el1 (res_elim h c (by omega) A0 hA) (by omega) (by omega)
theorem elim_none {n : Nat} {M : Mx} {c : Nat} (h : elim n M c = none) : ∀ k, elim n M (c + k) = none
  | 0 => h
  | k + 1 => by rw [← Nat.add_assoc, elim, elim_none h k]; rfl
theorem elim_none' {n : Nat} {M : Mx} {c d : Nat} (h : elim n M c = none) (hd : c ≤ d) : elim n M d = none := by
  have := elim_none h (d - c)
  rwa [Nat.add_sub_cancel' hd] at this
theorem elim_stop {n : Nat} {M A : Mx} {c : Nat} (h : elim n M c = some A) (hc : c < n) (hp : pv A c (n - c) < 0) : elim n M n = none :=
  elim_none' (c := c + 1) (by rw [elim, h]; simp [hp]) (by omega)
theorem elim_go {n : Nat} {M A : Mx} {c : Nat} (h : elim n M c = some A) (hp : 0 ≤ pv A c (n - c)) : elim n M (c + 1) = some (el1 A c (pv A c (n - c)).toNat) := by
  rw [elim, h]; simp only [Option.bind_some]; rw [if_neg (by omega)]
/-- The specification takes the product away, the program adds its negative. -/
theorem less_eq (r t p : Int) : addM r (-(mulM t p)) = addM r (mulM (-t) p) := by
  rw [addM_eq, addM_eq, mulM_eq, mulM_eq, Int.neg_mul]
  generalize t * p = q
  omega
/-- Where the column is 0 already the row stays. -/
theorem clr_nought {r p : Int} (h0 : 0 ≤ r) (h1 : r < 998244353) : addM r (mulM (-0) p) = r := by
  rw [addM_eq, mulM_eq]; simp; omega
end Go.Proofs.Ytboppklcmdfphaa.Rm
