/- Waves over residues: the transform by halves, its two ways of reckoning, its closed form, and what is folded: plain laws, no program. -/
import Derived.Test.YtpkbpikdffbadaaDoorMath
namespace Go.Proofs.YtpkbpikdffbadaaDoor.Wv
open Rm

/-! ### Powers -/
theorem powM_zero (w : Int) : powM w 0 = 1 := by simp [powM]
theorem powM_succ (w : Int) (j : Nat) : powM w (j + 1) = mulM (powM w j) w := by
  unfold powM; rw [mulM_eq, Int.pow_succ, mul_emod_l]
theorem powM_sqr (w : Int) (i : Nat) : powM (mulM w w) i = powM w (2 * i) := by
  unfold powM
  rw [mulM_eq, pow_md, Int.pow_mul]
  congr 2
  rw [Int.pow_succ, Int.pow_succ, Int.pow_zero, Int.one_mul]
theorem powM_add (w : Int) (i j : Nat) : powM w (i + j) = mulM (powM w i) (powM w j) := by
  unfold powM; rw [mulM_eq, Int.pow_add, ← Int.mul_emod]
theorem powM_res (w : Int) (j : Nat) : md (powM w j) = powM w j := md_id (powM_lo _ _) (powM_hi _ _)
theorem md_md (a : Int) : md (md a) = md a := md_id (md_lo _) (md_hi _)
theorem mulM_md (a b : Int) : mulM (md a) (md b) = mulM a b := by unfold mulM; rw [md_md, md_md]
theorem addM_md (a b : Int) : addM (md a) (md b) = addM a b := by unfold addM; rw [md_md, md_md]

/-! ### The transform by halves -/
/-- The specification's way: number j of the transform of 2^k numbers f by the root w. -/
def ft : Nat → (Nat → Int) → Int → Nat → Int
  | 0, f, _, _ => md (f 0)
  | k + 1, f, w, j =>
    if j < 2 ^ k then addM (ft k (fun i => f (2 * i)) (mulM w w) j) (mulM (powM w j) (ft k (fun i => f (2 * i + 1)) (mulM w w) j))
    else addM (ft k (fun i => f (2 * i)) (mulM w w) (j - 2 ^ k)) (-(mulM (powM w (j - 2 ^ k)) (ft k (fun i => f (2 * i + 1)) (mulM w w) (j - 2 ^ k))))
/-- The program's way: the powers stand in a list p. -/
def tr : Nat → (Nat → Int) → (Nat → Int) → Nat → Int
  | 0, f, _, _ => f 0
  | k + 1, f, p, j =>
    if j < 2 ^ k then addM (tr k (fun i => f (2 * i)) (fun i => p (2 * i)) j) (mulM (p j) (tr k (fun i => f (2 * i + 1)) (fun i => p (2 * i)) j))
    else addM (tr k (fun i => f (2 * i)) (fun i => p (2 * i)) (j - 2 ^ k)) (mulM (p j) (tr k (fun i => f (2 * i + 1)) (fun i => p (2 * i)) (j - 2 ^ k)))
/-- w is a root for 2^k numbers: half the way round it is -1. -/
def Rt : Nat → Int → Prop
  | 0, _ => True
  | k + 1, w => powM w (2 ^ k) = 998244352
theorem Rt.sq {k : Nat} {w : Int} (h : Rt (k + 1) w) : Rt k (mulM w w) := by
  cases k with
  | zero => trivial
  | succ k =>
    show powM (mulM w w) (2 ^ k) = 998244352
    rw [powM_sqr, ← Nat.pow_succ']; exact h
theorem ft_lo : ∀ (k : Nat) (f : Nat → Int) (w : Int) (j : Nat), 0 ≤ ft k f w j
  | 0, f, w, j => md_lo _
  | k + 1, f, w, j => by unfold ft; split <;> exact addM_lo _ _
theorem ft_hi : ∀ (k : Nat) (f : Nat → Int) (w : Int) (j : Nat), ft k f w j < 998244353
  | 0, f, w, j => md_hi _
  | k + 1, f, w, j => by unfold ft; split <;> exact addM_hi _ _
/-- Half the way round the sign is turned. -/
theorem turned {k : Nat} {w : Int} (h : Rt (k + 1) w) (j : Nat) (a b : Int) : addM a (mulM (powM w (2 ^ k + j)) b) = addM a (-(mulM (powM w j) b)) := by
  have h' : powM w (2 ^ k) = 998244352 := h
  rw [powM_add, h']
  generalize powM w j = p
  rw [addM_eq, addM_eq, mulM_eq, mulM_eq, mulM_eq]
  rw [mul_emod_l, Int.mul_assoc]
  generalize p * b = q
  omega
theorem tr_ft : ∀ (k : Nat) (f : Nat → Int) (w : Int) (j : Nat), Rt k w → j < 2 ^ k → tr k (fun i => md (f i)) (powM w) j = ft k f w j
  | 0, f, w, j, _, _ => rfl
  | k + 1, f, w, j, h, hj => by
    have hs : (fun i => powM w (2 * i)) = powM (mulM w w) := funext fun i => (powM_sqr w i).symm
    unfold tr ft
    rw [hs]
    by_cases hlt : j < 2 ^ k
    · rw [if_pos hlt, if_pos hlt, tr_ft k (fun i => f (2 * i)) _ _ h.sq hlt, tr_ft k (fun i => f (2 * i + 1)) _ _ h.sq hlt]
    · have h2 : j - 2 ^ k < 2 ^ k := by rw [Nat.pow_succ] at hj; omega
      rw [if_neg hlt, if_neg hlt, tr_ft k (fun i => f (2 * i)) _ _ h.sq h2, tr_ft k (fun i => f (2 * i + 1)) _ _ h.sq h2]
      have := turned h (j - 2 ^ k) (ft k (fun i => f (2 * i)) (mulM w w) (j - 2 ^ k)) (ft k (fun i => f (2 * i + 1)) (mulM w w) (j - 2 ^ k))
      rw [show 2 ^ k + (j - 2 ^ k) = j by omega] at this
      exact this

/-! ### Sums -/
/-- The sum of the first n numbers g. -/
def sm : Nat → (Nat → Int) → Int
  | 0, _ => 0
  | n + 1, g => sm n g + g n
theorem sm_congr {n : Nat} {g h : Nat → Int} (e : ∀ i, i < n → g i = h i) : sm n g = sm n h := by
  induction n with
  | zero => rfl
  | succ n ih => rw [sm, sm, ih fun i hi => e i (by omega), e n (by omega)]
theorem sm_mod {n : Nat} {g h : Nat → Int} (e : ∀ i, i < n → g i % 998244353 = h i % 998244353) : sm n g % 998244353 = sm n h % 998244353 := by
  induction n with
  | zero => rfl
  | succ n ih =>
    have h1 := ih fun i hi => e i (by omega)
    have h2 := e n (by omega)
    rw [sm, sm]; omega
theorem sm_mul (c : Int) (n : Nat) (g : Nat → Int) : sm n (fun i => c * g i) = c * sm n g := by
  induction n with
  | zero => simp [sm]
  | succ n ih => rw [sm, sm, ih, Int.mul_add]
theorem sm_add (n : Nat) (g h : Nat → Int) : sm n (fun i => g i + h i) = sm n g + sm n h := by
  induction n with
  | zero => simp [sm]
  | succ n ih => rw [sm, sm, sm, ih]; omega
theorem sm_zero (n : Nat) : sm n (fun _ => 0) = 0 := by
  induction n with
  | zero => rfl
  | succ n ih => rw [sm, ih]; rfl
theorem sm_const (c : Int) (n : Nat) : sm n (fun _ => c) = n * c := by
  induction n with
  | zero => simp [sm]
  | succ n ih => rw [sm, ih, Int.natCast_succ, Int.add_mul]; omega
/-- In two parts. -/
theorem sm_parts (n m : Nat) (g : Nat → Int) : sm (n + m) g = sm n g + sm m (fun i => g (n + i)) := by
  induction m with
  | zero => simp [sm]
  | succ m ih => rw [← Nat.add_assoc, sm, sm, ih]; omega
/-- Even and odd places. -/
theorem sm_twice (n : Nat) (g : Nat → Int) : sm (2 * n) g = sm n (fun i => g (2 * i)) + sm n (fun i => g (2 * i + 1)) := by
  induction n with
  | zero => rfl
  | succ n ih => rw [show 2 * (n + 1) = 2 * n + 1 + 1 by omega, sm, sm, sm, sm, ih]; omega
theorem sm_swap (n m : Nat) (g : Nat → Nat → Int) : sm n (fun i => sm m (g i)) = sm m (fun j => sm n (fun i => g i j)) := by
  induction n with
  | zero => simp only [sm]; exact (sm_zero m).symm
  | succ n ih => simp only [sm]; rw [ih, ← sm_add]
/-- One number alone. -/
theorem sm_one {n d : Nat} (hd : d < n) (g : Nat → Int) : sm n (fun i => if i = d then g i else 0) = g d := by
  induction n with
  | zero => omega
  | succ n ih =>
    rw [sm]
    by_cases e : n = d
    · subst e
      rw [if_pos rfl, sm_congr (h := fun _ => 0) (fun i hi => if_neg (by omega)), sm_zero]; omega
    · rw [if_neg e, ih (by omega)]; omega

/-! ### The closed form -/
theorem mod_add {a b c d : Int} (h : a % 998244353 = c % 998244353) (k : b % 998244353 = d % 998244353) : (a + b) % 998244353 = (c + d) % 998244353 := by omega
theorem mod_mul {a b c d : Int} (h : a % 998244353 = c % 998244353) (k : b % 998244353 = d % 998244353) : (a * b) % 998244353 = (c * d) % 998244353 := by
  rw [Int.mul_emod, h, k, ← Int.mul_emod]
theorem mod_pow {a c : Int} (h : a % 998244353 = c % 998244353) (n : Nat) : a ^ n % 998244353 = c ^ n % 998244353 := by
  rw [← pow_md a, h, pow_md]
theorem mod_mod (a : Int) : a % 998244353 % 998244353 = a % 998244353 := by omega
/-- w^(2^k) is 1 for a root of 2^k numbers. -/
theorem Rt.one {k : Nat} {w : Int} (h : Rt (k + 1) w) : w ^ (2 ^ (k + 1)) % 998244353 = 1 := by
  have h' : w ^ (2 ^ k) % 998244353 = 998244352 := h
  rw [Nat.pow_succ, Int.pow_mul, ← pow_md, h']
  decide
theorem sq_pow (w : Int) (n : Nat) : (mulM w w) ^ n % 998244353 = w ^ (2 * n) % 998244353 := powM_sqr w n
theorem ft_sum : ∀ (k : Nat) (f : Nat → Int) (w : Int) (j : Nat), Rt k w → j < 2 ^ k → ft k f w j = sm (2 ^ k) (fun i => f i * w ^ (i * j)) % 998244353
  | 0, f, w, j, _, hj => by simp [ft, sm, md]
  | k + 1, f, w, j, h, hj => by
    have h' : w ^ (2 ^ k) % 998244353 = 998244352 := h
    have h1 := h.one
    rw [Nat.pow_succ, Nat.mul_comm, sm_twice]
    -- of any j, at j' = j or j - 2^k
    have key : ∀ j', j' < 2 ^ k → (∀ i, (w ^ (2 * i * j)) % 998244353 = ((mulM w w) ^ (i * j')) % 998244353) → ∀ s : Int, (s * w ^ j') % 998244353 = w ^ j % 998244353 →
        (ft k (fun i => f (2 * i)) (mulM w w) j' + s * (powM w j' * ft k (fun i => f (2 * i + 1)) (mulM w w) j')) % 998244353
        = (sm (2 ^ k) (fun i => f (2 * i) * w ^ (2 * i * j)) + sm (2 ^ k) (fun i => f (2 * i + 1) * w ^ ((2 * i + 1) * j))) % 998244353 := by
      intro j' hj' hp s hs
      refine mod_add ?_ ?_
      · rw [ft_sum k _ _ j' h.sq hj', mod_mod]
        exact sm_mod fun i _ => mod_mul rfl (hp i).symm
      · rw [ft_sum k _ _ j' h.sq hj', ← Int.mul_assoc]
        have e1 : sm (2 ^ k) (fun i => f (2 * i + 1) * w ^ ((2 * i + 1) * j)) % 998244353 = w ^ j * sm (2 ^ k) (fun i => f (2 * i + 1) * (mulM w w) ^ (i * j')) % 998244353 := by
          rw [← sm_mul]
          refine sm_mod fun i _ => ?_
          rw [show (2 * i + 1) * j = 2 * i * j + j by rw [Nat.add_mul, Nat.one_mul], Int.pow_add]
          have := mod_mul (mod_mul (rfl : f (2 * i + 1) % 998244353 = f (2 * i + 1) % 998244353) (hp i)) (rfl : w ^ j % 998244353 = w ^ j % 998244353)
          rw [Int.mul_assoc] at this
          rw [this, Int.mul_comm]
        rw [e1]
        refine mod_mul ?_ (mod_mod _)
        rw [← hs]
        exact mod_mul rfl (mod_mod _)
    unfold ft
    by_cases hlt : j < 2 ^ k
    · rw [if_pos hlt, addM_eq, mulM_eq (powM w j)]
      have := key j hlt (fun i => by rw [sq_pow, Nat.mul_assoc]) 1 (by rw [Int.one_mul])
      rw [Int.one_mul] at this
      rw [← this]
      exact mod_add rfl (mod_mod _)
    · have h2 : j - 2 ^ k < 2 ^ k := by rw [Nat.pow_succ] at hj; omega
      obtain ⟨m, rfl⟩ : ∃ m, j = 2 ^ k + m := ⟨j - 2 ^ k, by omega⟩
      rw [if_neg hlt, show 2 ^ k + m - 2 ^ k = m by omega] at *
      have := key m h2 (fun i => by
        rw [sq_pow, show 2 * i * (2 ^ k + m) = 2 ^ (k + 1) * i + 2 * (i * m) by rw [Nat.pow_succ, Nat.mul_add, Nat.mul_assoc 2 i m, Nat.mul_comm (2 * i), ← Nat.mul_assoc], Int.pow_add, Int.pow_mul]
        have a1 : (w ^ 2 ^ (k + 1)) ^ i % 998244353 = 1 ^ i % 998244353 := mod_pow (by rw [h1]; rfl) i
        have := mod_mul a1 (rfl : w ^ (2 * (i * m)) % 998244353 = w ^ (2 * (i * m)) % 998244353)
        rw [this, Int.one_pow, Int.one_mul]) (-1) (by
        rw [Int.pow_add]
        exact mod_mul (by rw [h']; rfl) rfl)
      rw [addM_eq, mulM_eq (powM w m), ← this]
      refine mod_add rfl ?_
      generalize powM w m * ft k (fun i => f (2 * i + 1)) (mulM w w) m = q
      omega
end Go.Proofs.YtpkbpikdffbadaaDoor.Wv
