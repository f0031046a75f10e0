/- Prime is a prime: no product of two residues other than 0 is 0, and Fermat: a residue other than 0 times its power by Prime - 2 is 1. Plain laws, no program. -/
import Derived.Test.YtboppklcmdfphaaMath
namespace Go.Proofs.Ytboppklcmdfphaa.Rm

/-- No number from lo on, 2^k of them, divides Prime. -/
def noDiv (lo : Nat) : Nat → Bool
  | 0 => 998244353 % lo != 0
  | k + 1 => noDiv lo k && noDiv (lo + 2 ^ k) k
theorem noDiv_told : ∀ (k lo : Nat), noDiv lo k = true → ∀ d, lo ≤ d → d < lo + 2 ^ k → 998244353 % d ≠ 0
  | 0, lo, h, d, h1, h2 => by
    have e : d = lo := by simp at h2; omega
    subst e
    unfold noDiv at h
    intro e
    rw [e] at h
    exact absurd h (by decide)
  | k + 1, lo, h, d, h1, h2 => by
    unfold noDiv at h
    rw [Bool.and_eq_true] at h
    rw [Nat.pow_succ] at h2
    by_cases hd : d < lo + 2 ^ k
    · exact noDiv_told k lo h.1 d h1 hd
    · exact noDiv_told k (lo + 2 ^ k) h.2 d (by omega) (by omega)
theorem noDiv_small : noDiv 2 15 = true := by decide +kernel
theorem small_div {d : Nat} (h : d ∣ 998244353) (hd : d < 32770) : d = 1 := by
  have h0 : 998244353 % d = 0 := Nat.mod_eq_zero_of_dvd h
  by_cases h2 : 2 ≤ d
  · exact absurd h0 (noDiv_told 15 2 noDiv_small d h2 (by simpa using hd))
  · have : d ≠ 0 := by
      intro e
      subst e
      simp at h0
    omega
theorem prime_div {d : Nat} (h : d ∣ 998244353) : d = 1 ∨ d = 998244353 := by
  by_cases hd : d < 32770
  · exact Or.inl (small_div h hd)
  · obtain ⟨e, he⟩ := h
    by_cases h2 : e < 32770
    · have := small_div (d := e) ⟨d, by rw [Nat.mul_comm]; exact he⟩ h2
      subst this
      right; omega
    · have : 32770 * 32770 ≤ d * e := Nat.mul_le_mul (by omega) (by omega)
      omega
theorem euclid {a b : Nat} (h : 998244353 ∣ a * b) : 998244353 ∣ a ∨ 998244353 ∣ b := by
  have hg : Nat.gcd 998244353 a ∣ 998244353 := Nat.gcd_dvd_left _ _
  rcases prime_div hg with e | e
  · exact Or.inr (Nat.Coprime.dvd_of_dvd_mul_left (k := 998244353) (m := a) (n := b) e h)
  · left
    have := Nat.gcd_dvd_right 998244353 a
    rwa [e] at this

/-! ### Fermat, for any number that divides no product of two that it does not divide -/
theorem perm_of : ∀ {l m : List Nat}, l.Nodup → (∀ x, x ∈ l → x ∈ m) → m.length ≤ l.length → l.Perm m
  | [], m, _, _, hn => by
    have : m = [] := List.eq_nil_of_length_eq_zero (by simpa using hn)
    subst this
    exact List.Perm.refl _
  | x :: t, m, hl, hs, hn => by
    have hx : x ∈ m := hs x (by simp)
    have hp : m.Perm (x :: m.erase x) := List.perm_cons_erase hx
    rw [List.nodup_cons] at hl
    have ht : t.Perm (m.erase x) := perm_of hl.2 (fun y hy => (List.mem_erase_of_ne (by intro e; subst e; exact hl.1 hy)).2 (hs y (by simp [hy]))) (by
      rw [List.length_erase_of_mem hx]
      simp at hn
      omega)
    exact (List.Perm.cons x ht).trans hp.symm
def lp : List Nat → Nat
  | [] => 1
  | x :: t => x * lp t
theorem lp_perm {l m : List Nat} (h : l.Perm m) : lp l = lp m := by
  induction h with
  | nil => rfl
  | cons x _ ih => simp only [lp, ih]
  | swap x y l => simp only [lp]; rw [Nat.mul_left_comm]
  | trans _ _ h1 h2 => exact h1.trans h2
theorem lp_map (p a : Nat) : ∀ L : List Nat, lp (L.map fun k => a * k % p) % p = a ^ L.length * lp L % p
  | [] => by simp [lp]
  | x :: t => by
    simp only [List.map_cons, lp, List.length_cons]
    rw [Nat.mul_mod, lp_map p a t, Nat.mod_mod, ← Nat.mul_mod, Nat.pow_succ]
    congr 1
    grind
theorem lp_no {p : Nat} (hp : ∀ a b, p ∣ a * b → p ∣ a ∨ p ∣ b) (h1 : 1 < p) : ∀ L : List Nat, (∀ x, x ∈ L → ¬ p ∣ x) → ¬ p ∣ lp L
  | [], _ => by
    intro h
    have := Nat.le_of_dvd (by simp [lp]) h
    simp [lp] at this
    omega
  | x :: t, h => by
    intro hd
    rcases hp _ _ hd with h2 | h2
    · exact h x (by simp) h2
    · exact lp_no hp h1 t (fun y hy => h y (by simp [hy])) h2
theorem mod_dvd {p a b : Nat} (_h : b ≤ a) (e : a % p = b % p) : p ∣ a - b := by
  have := Nat.sub_mod_eq_zero_of_mod_eq e
  exact Nat.dvd_of_mod_eq_zero this
theorem fermat {p : Nat} (hp : ∀ a b, p ∣ a * b → p ∣ a ∨ p ∣ b) (h1 : 1 < p) {a : Nat} (ha : ¬ p ∣ a) : a ^ (p - 1) % p = 1 := by
  have hL : ∀ x, x ∈ (List.range (p - 1)).map (· + 1) ↔ 1 ≤ x ∧ x < p := fun x => by
    simp only [List.mem_map, List.mem_range]
    constructor
    · rintro ⟨k, hk, rfl⟩; omega
    · intro h; exact ⟨x - 1, by omega, by omega⟩
  have hno : ∀ x, 1 ≤ x → x < p → ¬ p ∣ x := fun x h2 h3 h4 => by
    have := Nat.le_of_dvd (by omega) h4
    omega
  obtain ⟨L, hLe⟩ : ∃ L, L = (List.range (p - 1)).map (· + 1) := ⟨_, rfl⟩
  rw [← hLe] at hL
  have hnd : L.Nodup := by
    rw [hLe]
    refine List.Pairwise.map _ (fun a b h => ?_) List.nodup_range
    omega
  have hlen : L.length = p - 1 := by rw [hLe]; simp
  have inj : ∀ x y, x ∈ L → y ∈ L → a * x % p = a * y % p → x ≤ y → x = y := fun x y hx hy e hxy => by
    have h2 := mod_dvd (Nat.mul_le_mul_left a hxy) e.symm
    rw [← Nat.mul_sub] at h2
    rcases hp _ _ h2 with h3 | h3
    · exact absurd h3 ha
    · have h4 := (hL x).1 hx
      have h5 := (hL y).1 hy
      by_cases h6 : x = y
      · exact h6
      · exact absurd h3 (hno _ (by omega) (by omega))
  have hP : (L.map fun k => a * k % p).Perm L := by
    refine perm_of ?_ (fun x hx => ?_) (by simp)
    · rw [List.Nodup, List.pairwise_map]
      refine List.Pairwise.imp_of_mem ?_ hnd
      intro x y hx hy hxy e
      rcases Nat.le_total x y with h | h
      · exact hxy (inj x y hx hy e h)
      · exact hxy (inj y x hy hx e.symm h).symm
    · rw [List.mem_map] at hx
      obtain ⟨k, hk, rfl⟩ := hx
      have h2 := (hL k).1 hk
      rw [hL]
      refine ⟨?_, Nat.mod_lt _ (by omega)⟩
      have : a * k % p ≠ 0 := fun e => by
        rcases hp _ _ (Nat.dvd_of_mod_eq_zero e) with h3 | h3
        · exact ha h3
        · exact hno k h2.1 h2.2 h3
      omega
  have e := lp_map p a L
  rw [lp_perm hP, hlen] at e
  have hlp : ¬ p ∣ lp L := lp_no hp h1 L (fun x hx => hno x ((hL x).1 hx).1 ((hL x).1 hx).2)
  obtain ⟨q, hq⟩ : ∃ q, q = a ^ (p - 1) := ⟨_, rfl⟩
  rw [← hq] at e ⊢
  have hq1 : 1 ≤ q := by
    rw [hq]
    refine Nat.pos_of_ne_zero fun h => ?_
    have h2 : a = 0 := by
      have := Nat.pow_eq_zero.1 h
      exact this.1
    exact ha (h2 ▸ Nat.dvd_zero p)
  have h2 := mod_dvd (p := p) (a := q * lp L) (b := lp L) (by have := Nat.mul_le_mul_right (lp L) hq1; omega) e.symm
  have h3 : q * lp L - lp L = (q - 1) * lp L := by rw [Nat.sub_mul, Nat.one_mul]
  rw [h3] at h2
  rcases hp _ _ h2 with h4 | h4
  · obtain ⟨k, hk⟩ := h4
    have : q = p * k + 1 := by omega
    rw [this, Nat.mul_add_mod]
    exact Nat.mod_eq_of_lt h1
  · exact absurd h4 hlp

/-! ### Of residues -/
theorem md_dvd {a : Int} (h : md a = 0) : (998244353 : Int) ∣ a := Int.dvd_of_emod_eq_zero h
theorem mul_nought {a b : Int} (h : a * b % 998244353 = 0) : md a = 0 ∨ md b = 0 := by
  have h1 : (998244353 : Int) ∣ a * b := Int.dvd_of_emod_eq_zero h
  have h2 : 998244353 ∣ a.natAbs * b.natAbs := by
    rw [← Int.natAbs_mul]
    exact Int.natAbs_dvd_natAbs.2 h1
  rcases euclid h2 with h3 | h3
  · left
    have : (998244353 : Int) ∣ a := Int.natAbs_dvd_natAbs.1 h3
    exact Int.emod_eq_zero_of_dvd this
  · right
    have : (998244353 : Int) ∣ b := Int.natAbs_dvd_natAbs.1 h3
    exact Int.emod_eq_zero_of_dvd this
theorem mulM_nought {a b : Int} : mulM a b = 0 ↔ md a = 0 ∨ md b = 0 := by
  constructor
  · intro h
    rw [mulM_eq] at h
    exact mul_nought h
  · intro h
    unfold mulM
    rcases h with h | h <;> rw [h] <;> simp
theorem inv_gen (p : Nat) (hp : p = 998244353) {a : Nat} (ha : ¬ p ∣ a) (n : Nat) (hn : n + 1 = p - 1) : a ^ n * a % p = 1 := by
  rw [← Nat.pow_succ, Nat.succ_eq_add_one, hn]
  exact fermat (fun x y h => by subst hp; exact euclid h) (by omega) ha
theorem invM_mul {a : Int} (h : md a ≠ 0) : invM a * a % 998244353 = 1 := by
  obtain ⟨x, hx⟩ : ∃ x : Nat, (x : Int) = md a := ⟨(md a).toNat, by have := md_lo a; omega⟩
  have hxn : ¬ 998244353 ∣ x := fun hd => by
    have := md_hi a
    have h2 := Nat.le_of_dvd (by omega) hd
    omega
  obtain ⟨n, hn⟩ : ∃ n : Nat, n = 998244351 := ⟨_, rfl⟩
  have key : invM a = a ^ n % 998244353 := by
    unfold invM
    rw [show (998244351 : Int) = ((n : Nat) : Int) by rw [hn]; rfl, powI_pos]
    rfl
  rw [key, ← pow_md, Int.mul_emod, Int.emod_emod_of_dvd _ (Int.dvd_refl _)]
  change ((md a) ^ n % 998244353 * md a) % 998244353 = 1
  rw [← hx, mul_emod_l]
  have e := inv_gen 998244353 rfl hxn n (by omega)
  have : ((x ^ n * x % 998244353 : Nat) : Int) = 1 := by rw [e]; rfl
  rw [Int.natCast_emod, Int.natCast_mul, Int.natCast_pow] at this
  exact this
theorem invM_res (a : Int) : 0 ≤ invM a ∧ invM a < 998244353 := ⟨powI_lo _ _, powI_hi _ _⟩
theorem invM_no {a : Int} (h : md a ≠ 0) : md (invM a) ≠ 0 := fun e => by
  have h1 := invM_mul h
  rw [md_id (invM_res a).1 (invM_res a).2] at e
  rw [e] at h1
  simp at h1
end Go.Proofs.Ytboppklcmdfphaa.Rm
