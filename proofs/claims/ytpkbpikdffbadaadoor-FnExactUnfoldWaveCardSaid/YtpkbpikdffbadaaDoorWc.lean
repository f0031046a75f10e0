/- Waves over residues: the roots, their inverses, sums of powers, and that a product of transforms, restored, is the fold: plain laws, no program. -/
import Derived.Test.YtpkbpikdffbadaaDoorWm
namespace Go.Proofs.YtpkbpikdffbadaaDoor.Wv
open Rm

/-! ### Powers by squares -/
def sqp : Nat → Int → Int → Nat → Int
  | 0, out, _, _ => out
  | f + 1, out, x, n => if n = 0 then out else if n % 2 = 1 then sqp f (out * x % 998244353) (x * x % 998244353) (n / 2) else sqp f out (x * x % 998244353) (n / 2)
theorem sqp_owed : ∀ (f : Nat) (out x : Int) (n : Nat), n < 2 ^ f → 0 ≤ out → out < 998244353 → sqp f out x n = owed out x n
  | 0, out, x, n, h, h1, h2 => by
    have : n = 0 := by simp at h; exact h
    subst this
    exact (owed_end h1 h2).symm
  | f + 1, out, x, n, h, h1, h2 => by
    have h3 : n / 2 < 2 ^ f := by rw [Nat.pow_succ] at h; omega
    unfold sqp
    by_cases h0 : n = 0
    · rw [if_pos h0, h0]; exact (owed_end h1 h2).symm
    · rw [if_neg h0]
      by_cases ho : n % 2 = 1
      · rw [if_pos ho, sqp_owed f _ _ _ h3 (by omega) (by omega), owed_odd _ _ _ ho]
      · rw [if_neg ho, sqp_owed f _ _ _ h3 h1 h2, owed_even _ _ _ (by omega)]
theorem powM_sqp (a : Int) (n : Nat) (h : n < 2 ^ 31) : powM a n = sqp 31 1 (md a) n := by
  rw [sqp_owed 31 _ _ _ h (by omega) (by omega), owed_start]
/-- The root for 2^k numbers, reckoned. -/
def rtv (k : Nat) : Int := sqp 31 1 3 (half k)
def inv31 (a : Int) : Int := sqp 31 1 (md a) 998244351
theorem rootI_val (k : Nat) (h : k ≤ 10) : rootI k = rtv k := by
  have h1 : rootI k = powM 3 (half k) := by
    simp only [rootI, Int.toNat_natCast]
    rw [if_neg (by omega)]
  rw [h1, powM_sqp _ _ (by have := half_le k; omega)]
  rfl
theorem invM_val (a : Int) : invM a = inv31 a := by
  unfold invM inv31
  rw [show (998244351 : Int) = ((998244351 : Nat) : Int) from rfl, powI_pos, powM_sqp _ _ (by decide)]
theorem root_all : ∀ k : Fin 11, (k.val = 0 ∨ sqp 31 1 (md (rtv k.val)) (2 ^ (k.val - 1)) = 998244352) ∧ (k.val = 0 ∨ sqp 31 1 (md (inv31 (rtv k.val))) (2 ^ (k.val - 1)) = 998244352)
    ∧ inv31 (rtv k.val) * rtv k.val % 998244353 = 1 ∧ inv31 ((2 ^ k.val : Nat) : Int) * ((2 ^ k.val : Nat) : Int) % 998244353 = 1 := by decide +kernel
theorem rt_of {k : Nat} {w : Int} (hk : k ≤ 10) (h : k = 0 ∨ sqp 31 1 (md w) (2 ^ (k - 1)) = 998244352) : Rt k w := by
  cases k with
  | zero => trivial
  | succ k =>
    rcases h with h | h
    · omega
    · show powM w (2 ^ k) = 998244352
      have h10 : 2 ^ k ≤ 2 ^ 10 := Nat.pow_le_pow_right (by decide) (by omega)
      rw [powM_sqp _ _ (by have : (2 : Nat) ^ 10 < 2 ^ 31 := by decide
                           omega)]
      exact h
theorem root_rt {k : Nat} (h : k ≤ 10) : Rt k (rootI k) := by
  rw [rootI_val k h]
  exact rt_of h (root_all ⟨k, by omega⟩).1
theorem root_irt {k : Nat} (h : k ≤ 10) : Rt k (invM (rootI k)) := by
  rw [rootI_val k h, invM_val]
  exact rt_of h (root_all ⟨k, by omega⟩).2.1
theorem root_inv {k : Nat} (h : k ≤ 10) : invM (rootI k) * rootI k % 998244353 = 1 := by
  rw [rootI_val k h, invM_val]
  exact (root_all ⟨k, by omega⟩).2.2.1
theorem two_inv {k : Nat} (h : k ≤ 10) : invM ((2 ^ k : Nat) : Int) * ((2 ^ k : Nat) : Int) % 998244353 = 1 := by
  rw [invM_val]
  exact (root_all ⟨k, by omega⟩).2.2.2

/-! ### Sums of powers of a root -/
theorem neg_pow (a : Int) (h : a % 998244353 = 998244352) (d : Nat) : a ^ (2 * d) % 998244353 = 1 ∧ a ^ (2 * d + 1) % 998244353 = 998244352 := by
  have h2 : a ^ 2 % 998244353 = 1 := by
    rw [Int.pow_succ, Int.pow_succ, Int.pow_zero, Int.one_mul, Int.mul_emod, h]; decide
  have h3 : a ^ (2 * d) % 998244353 = 1 := by
    rw [Int.pow_mul, ← pow_md, h2, Int.one_pow]; decide
  refine ⟨h3, ?_⟩
  rw [Int.pow_succ, Int.mul_emod, h3, h]; decide
theorem geo : ∀ (k : Nat) (w : Int) (d : Nat), Rt k w → d < 2 ^ k → sm (2 ^ k) (fun m => w ^ (d * m)) % 998244353 = if d = 0 then ((2 ^ k : Nat) : Int) % 998244353 else 0
  | 0, w, d, _, hd => by
    have : d = 0 := by simp at hd; exact hd
    subst this
    simp [sm]
  | k + 1, w, d, h, hd => by
    have h' : w ^ (2 ^ k) % 998244353 = 998244352 := h
    rw [show (2 : Nat) ^ (k + 1) = 2 ^ k + 2 ^ k by rw [Nat.pow_succ]; omega, sm_parts]
    by_cases he : d % 2 = 0
    · obtain ⟨c, rfl⟩ : ∃ c, d = 2 * c := ⟨d / 2, by omega⟩
      have hc : c < 2 ^ k := by rw [Nat.pow_succ] at hd; omega
      have ih := geo k (mulM w w) c h.sq hc
      have e1 : sm (2 ^ k) (fun m => w ^ (2 * c * m)) % 998244353 = sm (2 ^ k) (fun m => (mulM w w) ^ (c * m)) % 998244353 := sm_mod fun m _ => by rw [sq_pow, Nat.mul_assoc]
      have e2 : sm (2 ^ k) (fun i => w ^ (2 * c * (2 ^ k + i))) % 998244353 = sm (2 ^ k) (fun m => (mulM w w) ^ (c * m)) % 998244353 := sm_mod fun m _ => by
        rw [Nat.mul_add, Int.pow_add, Nat.mul_comm (2 * c), Int.pow_mul]
        have a1 := (neg_pow _ h' c).1
        rw [Int.mul_emod, a1, sq_pow, Nat.mul_assoc]
        omega
      rw [ih] at e1 e2
      by_cases h0 : c = 0
      · subst h0
        rw [if_pos rfl] at e1 e2 ⊢
        omega
      · rw [if_neg h0] at e1 e2
        rw [if_neg (by omega)]
        omega
    · obtain ⟨c, rfl⟩ : ∃ c, d = 2 * c + 1 := ⟨d / 2, by omega⟩
      rw [if_neg (by omega)]
      have e2 : sm (2 ^ k) (fun i => w ^ ((2 * c + 1) * (2 ^ k + i))) % 998244353 = sm (2 ^ k) (fun i => 998244352 * w ^ ((2 * c + 1) * i)) % 998244353 := sm_mod fun m _ => by
        rw [Nat.mul_add, Int.pow_add, Nat.mul_comm (2 * c + 1) (2 ^ k), Int.pow_mul]
        exact mod_mul (by rw [(neg_pow _ h' c).2]; rfl) rfl
      rw [sm_mul] at e2
      generalize sm (2 ^ k) (fun m => w ^ ((2 * c + 1) * m)) = q at *
      generalize sm (2 ^ k) (fun i => w ^ ((2 * c + 1) * (2 ^ k + i))) = r at *
      omega

/-! ### What is folded -/
/-- Number j of the fold, by sums. -/
def cv (n : Nat) (a b : Nat → Int) (j : Nat) : Int := sm n (fun i => a i * b ((j + n - i) % n)) % 998244353
theorem pow_mod_n {k : Nat} {w : Int} (h : Rt k w) (e : Nat) : w ^ e % 998244353 = w ^ (e % 2 ^ k) % 998244353 ∨ k = 0 := by
  cases k with
  | zero => right; rfl
  | succ k =>
    left
    have h1 := h.one
    conv => lhs; rw [← Nat.div_add_mod e (2 ^ (k + 1)), Int.pow_add, Int.pow_mul]
    have a1 : (w ^ 2 ^ (k + 1)) ^ (e / 2 ^ (k + 1)) % 998244353 = 1 := by rw [← pow_md, h1, Int.one_pow]; decide
    rw [Int.mul_emod, a1]
    omega
theorem sm_prod (n m : Nat) (f g : Nat → Int) : sm n f * sm m g = sm n (fun i => sm m (fun l => f i * g l)) := by
  rw [sm_congr (g := fun i => sm m (fun l => f i * g l)) (h := fun i => sm m g * f i) (fun i _ => by rw [sm_mul, Int.mul_comm]), sm_mul, Int.mul_comm]
theorem meet {n i l j : Nat} (hn : 0 < n) (hi : i < n) (hl : l < n) (hj : j < n) : (i + l + (n - 1) * j) % n = 0 ↔ l = (j + n - i) % n := by
  have e : (n - 1) * j + j = n * j := by
    obtain ⟨p, rfl⟩ : ∃ p, n = p + 1 := ⟨n - 1, by omega⟩
    rw [Nat.add_sub_cancel, Nat.add_mul]; omega
  have hc : (j + n - i) % n = if i ≤ j then j - i else j + n - i := by
    split
    · rw [show j + n - i = j - i + n by omega, Nat.add_mod_right, Nat.mod_eq_of_lt (by omega)]
    · exact Nat.mod_eq_of_lt (by omega)
  rw [hc]
  constructor
  · intro h
    obtain ⟨q, hq⟩ := Nat.dvd_of_mod_eq_zero h
    have h1 : (i + l) % n = j := by
      have h2 : (i + l + n * j) % n = (n * q + j) % n := by congr 1; omega
      rw [Nat.add_mul_mod_self_left, Nat.mul_add_mod, Nat.mod_eq_of_lt hj] at h2
      exact h2
    by_cases hs : i + l < n
    · rw [Nat.mod_eq_of_lt hs] at h1; split <;> omega
    · rw [Nat.mod_eq_sub_mod (by omega), Nat.mod_eq_of_lt (by omega)] at h1; split <;> omega
  · intro h
    split at h
    · rw [show i + l + (n - 1) * j = n * j by omega, Nat.mul_mod_right]
    · rw [show i + l + (n - 1) * j = n * j + n by omega, Nat.add_mod_right, Nat.mul_mod_right]
theorem u_pow {k : Nat} {w u : Int} (h : Rt (k + 1) w) (hu : u * w % 998244353 = 1) : u % 998244353 = w ^ (2 ^ (k + 1) - 1) % 998244353 := by
  have h1 := h.one
  have hp : 1 ≤ 2 ^ (k + 1) := Nat.one_le_two_pow
  have e : w ^ 2 ^ (k + 1) = w * w ^ (2 ^ (k + 1) - 1) := by
    conv => lhs; rw [show 2 ^ (k + 1) = 1 + (2 ^ (k + 1) - 1) by omega, Int.pow_add, Int.pow_succ, Int.pow_zero, Int.one_mul]
  have a1 : u * w ^ 2 ^ (k + 1) % 998244353 = u % 998244353 := by rw [Int.mul_emod, h1]; omega
  rw [e, ← Int.mul_assoc, Int.mul_emod, hu] at a1
  rw [← a1]
  omega
/-- One product of powers. -/
theorem one_pow3 {k : Nat} {w u : Int} (h : Rt (k + 1) w) (hu : u * w % 998244353 = 1) (i l j m : Nat) :
    w ^ (i * m) * w ^ (l * m) * u ^ (m * j) % 998244353 = w ^ ((i + l + (2 ^ (k + 1) - 1) * j) % 2 ^ (k + 1) * m) % 998244353 := by
  have e1 : u ^ (m * j) % 998244353 = w ^ ((2 ^ (k + 1) - 1) * (m * j)) % 998244353 := by rw [Int.pow_mul (a := w)]; exact mod_pow (u_pow h hu) _
  have e2 := mod_mul (rfl : w ^ (i * m) * w ^ (l * m) % 998244353 = w ^ (i * m) * w ^ (l * m) % 998244353) e1
  rw [e2, ← Int.pow_add, ← Int.pow_add, show i * m + l * m + (2 ^ (k + 1) - 1) * (m * j) = (i + l + (2 ^ (k + 1) - 1) * j) * m by
    rw [Nat.add_mul, Nat.add_mul, Nat.mul_assoc, Nat.mul_comm j m], Int.pow_mul, Int.pow_mul]
  rcases pow_mod_n h (i + l + (2 ^ (k + 1) - 1) * j) with e | e
  · exact mod_pow e m
  · omega
theorem fold_pos {k : Nat} {w u : Int} (h : Rt (k + 1) w) (h2 : Rt (k + 1) u) (hu : u * w % 998244353 = 1) (a b : Nat → Int) {j : Nat} (hj : j < 2 ^ (k + 1)) :
    ft (k + 1) (fun m => mulM (ft (k + 1) a w m) (ft (k + 1) b w m)) u j = ((2 ^ (k + 1) : Nat) : Int) * sm (2 ^ (k + 1)) (fun i => a i * b ((j + 2 ^ (k + 1) - i) % 2 ^ (k + 1))) % 998244353 := by
  have hp : 0 < 2 ^ (k + 1) := Nat.two_pow_pos _
  rw [ft_sum _ _ _ _ h2 hj]
  have e1 : ∀ m, m < 2 ^ (k + 1) → mulM (ft (k + 1) a w m) (ft (k + 1) b w m) * u ^ (m * j) % 998244353
      = sm (2 ^ (k + 1)) (fun i => sm (2 ^ (k + 1)) (fun l => a i * b l * w ^ ((i + l + (2 ^ (k + 1) - 1) * j) % 2 ^ (k + 1) * m))) % 998244353 := by
    intro m hm
    rw [mulM_eq, ft_sum _ _ _ _ h hm, ft_sum _ _ _ _ h hm, ← Int.mul_emod, sm_prod, mul_emod_l, Int.mul_comm, ← sm_mul]
    refine sm_mod fun i hi => ?_
    rw [← sm_mul]
    refine sm_mod fun l hl => ?_
    have := mod_mul (rfl : a i * b l % 998244353 = a i * b l % 998244353) (one_pow3 h hu i l j m)
    rw [← this]
    congr 1
    simp only [Int.mul_assoc, Int.mul_comm, Int.mul_left_comm]
  rw [sm_mod e1, sm_swap, ← sm_mul]
  refine sm_mod fun i hi => ?_
  rw [sm_swap]
  have e3 : sm (2 ^ (k + 1)) (fun l => sm (2 ^ (k + 1)) (fun m => a i * b l * w ^ ((i + l + (2 ^ (k + 1) - 1) * j) % 2 ^ (k + 1) * m))) % 998244353
      = sm (2 ^ (k + 1)) (fun l => if l = (j + 2 ^ (k + 1) - i) % 2 ^ (k + 1) then ((2 ^ (k + 1) : Nat) : Int) * (a i * b l) else 0) % 998244353 := by
    refine sm_mod fun l hl => ?_
    rw [sm_mul]
    have hg := geo (k + 1) w ((i + l + (2 ^ (k + 1) - 1) * j) % 2 ^ (k + 1)) h (Nat.mod_lt _ hp)
    have hm := meet hp hi hl hj
    by_cases hd : (i + l + (2 ^ (k + 1) - 1) * j) % 2 ^ (k + 1) = 0
    · rw [if_pos hd] at hg
      rw [if_pos (hm.1 hd), Int.mul_emod, hg, ← Int.mul_emod, Int.mul_comm]
    · rw [if_neg hd] at hg
      rw [if_neg (fun c => hd (hm.2 c)), Int.mul_emod, hg]
      simp
  rw [e3, sm_one (Nat.mod_lt _ hp)]
theorem fold_ok {k : Nat} (hk : k ≤ 10) (a b : Nat → Int) {j : Nat} (hj : j < 2 ^ k) :
    mulM (ft k (fun m => mulM (ft k a (rootI k) m) (ft k b (rootI k) m)) (invM (rootI k)) j) (invM ((2 ^ k : Nat) : Int)) = cv (2 ^ k) a b j := by
  have h3 := two_inv hk
  cases k with
  | zero =>
    have : j = 0 := by simp at hj; exact hj
    subst this
    simp only [ft, cv]
    rw [mulM_eq, mulM_eq]
    have e : sm (2 ^ 0) (fun i => a i * b ((0 + 2 ^ 0 - i) % 2 ^ 0)) = a 0 * b 0 := by simp [sm]
    rw [e]
    have h4 : md (md (a 0) * md (b 0) % 998244353) % 998244353 = a 0 * b 0 % 998244353 := by
      unfold md
      rw [← Int.mul_emod]; omega
    rw [Int.mul_emod, h4, ← Int.mul_emod]
    have h5 : invM ((2 ^ 0 : Nat) : Int) % 998244353 = 1 := by simpa using h3
    rw [Int.mul_emod, h5]
    omega
  | succ k =>
    rw [fold_pos (root_rt hk) (root_irt hk) (root_inv hk) a b hj, mulM_eq]
    unfold cv
    generalize sm (2 ^ (k + 1)) (fun i => a i * b ((j + 2 ^ (k + 1) - i) % 2 ^ (k + 1))) = s
    generalize ((2 ^ (k + 1) : Nat) : Int) = n at *
    generalize invM n = v at *
    rw [mul_emod_l, Int.mul_comm, ← Int.mul_assoc, Int.mul_emod, h3]
    omega
/-- The fold by sums, one after another. -/
def cs (a b : Nat → Int) (n j : Nat) : Nat → Int | 0 => 0 | i + 1 => addM (cs a b n j i) (mulM (a i) (b ((j + n - i) % n)))
theorem cs_sm (a b : Nat → Int) (n j : Nat) : ∀ i, cs a b n j i = sm i (fun i => a i * b ((j + n - i) % n)) % 998244353
  | 0 => by simp [cs, sm]
  | i + 1 => by rw [cs, cs_sm a b n j i, addM_eq, mulM_eq, sm]; omega
theorem cs_cv (a b : Nat → Int) (n j : Nat) : cs a b n j n = cv n a b j := cs_sm a b n j n
theorem cs_lo (a b : Nat → Int) (n j : Nat) : ∀ i, 0 ≤ cs a b n j i | 0 => by simp [cs] | i + 1 => addM_lo _ _
theorem cs_hi (a b : Nat → Int) (n j : Nat) : ∀ i, cs a b n j i < 998244353 | 0 => by simp [cs] | i + 1 => addM_hi _ _
end Go.Proofs.YtpkbpikdffbadaaDoor.Wv
