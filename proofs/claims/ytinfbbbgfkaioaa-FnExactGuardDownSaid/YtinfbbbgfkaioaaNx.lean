/- Rows of slots, plainly: how far up a row is used, its holes, whether slots are open for a light. -/
import Derived.Test.YtinfbbbgfkaioaaNl
namespace Go.Proofs.Ytinfbbbgfkaioaa.Nt
set_option linter.unusedVariables false
/-- How many slots lie up to the highest one that is somebody's. -/
def topR (f : Nat → Int) : Nat → Nat
  | 0 => 0
  | n + 1 => if f n ≠ 0 then n + 1 else topR f n
/-- How many of the first slots are nobody's. -/
def cntz (f : Nat → Int) : Nat → Nat
  | 0 => 0
  | n + 1 => cntz f n + if f n = 0 then 1 else 0
theorem topR_le (f : Nat → Int) : ∀ n, topR f n ≤ n
  | 0 => Nat.le_refl _
  | n + 1 => by
    show (if f n ≠ 0 then n + 1 else topR f n) ≤ n + 1
    split
    · exact Nat.le_refl _
    · have := topR_le f n; omega
theorem cntz_le (f : Nat → Int) : ∀ n, cntz f n ≤ n
  | 0 => Nat.le_refl _
  | n + 1 => by
    show cntz f n + (if f n = 0 then 1 else 0) ≤ n + 1
    have := cntz_le f n
    split <;> omega
theorem topR_hit {f : Nat → Int} {s : Nat} (h : f s ≠ 0) : ∀ {n : Nat}, s < n → s + 1 ≤ topR f n
  | 0, hn => absurd hn (Nat.not_lt_zero _)
  | n + 1, hn => by
    show s + 1 ≤ (if f n ≠ 0 then n + 1 else topR f n)
    split
    · omega
    · rename_i hz
      have : s ≠ n := fun e => hz (e ▸ h)
      exact topR_hit h (by omega)
theorem topR_is {f : Nat → Int} : ∀ {n : Nat}, topR f n ≠ 0 → ∃ s, s < n ∧ f s ≠ 0 ∧ topR f n = s + 1
  | 0, h => absurd rfl h
  | n + 1, h => by
    by_cases hz : f n ≠ 0
    · exact ⟨n, by omega, hz, by show (if f n ≠ 0 then n + 1 else topR f n) = n + 1; rw [if_pos hz]⟩
    · have e : topR f (n + 1) = topR f n := by show (if f n ≠ 0 then n + 1 else topR f n) = _; rw [if_neg hz]
      rw [e] at h ⊢
      obtain ⟨s, h1, h2, h3⟩ := topR_is h
      exact ⟨s, by omega, h2, h3⟩
theorem topR_stop {f : Nat → Int} {m : Nat} (h : f m ≠ 0) : ∀ {n : Nat}, m < n → (∀ s, m < s → s < n → f s = 0) → topR f n = m + 1
  | 0, hn, _ => absurd hn (Nat.not_lt_zero _)
  | n + 1, hn, hz => by
    show (if f n ≠ 0 then n + 1 else topR f n) = m + 1
    by_cases e : m = n
    · subst e; rw [if_pos h]
    · rw [if_neg (by simp [hz n (by omega) (by omega)])]
      exact topR_stop h (by omega) fun s h1 h2 => hz s h1 (by omega)
theorem topR_none {f : Nat → Int} : ∀ {n : Nat}, (∀ s, s < n → f s = 0) → topR f n = 0
  | 0, _ => rfl
  | n + 1, hz => by
    show (if f n ≠ 0 then n + 1 else topR f n) = 0
    rw [if_neg (by simp [hz n (by omega)])]
    exact topR_none fun s h => hz s (by omega)
/-- The highest of the first rows. -/
def topM (R : Nat → Nat → Int) (S : Nat) : Nat → Nat
  | 0 => 0
  | k + 1 => max (topM R S k) (topR (R k) S)
theorem topM_le (R : Nat → Nat → Int) (S : Nat) : ∀ k, topM R S k ≤ S
  | 0 => Nat.zero_le _
  | k + 1 => by
    have h1 := topM_le R S k
    have h2 := topR_le (R k) S
    show max (topM R S k) (topR (R k) S) ≤ S
    omega
theorem topM_hit {R : Nat → Nat → Int} {S f s : Nat} (hs : s < S) (h : R f s ≠ 0) : ∀ {k : Nat}, f < k → s + 1 ≤ topM R S k
  | 0, hk => absurd hk (Nat.not_lt_zero _)
  | k + 1, hk => by
    show s + 1 ≤ max (topM R S k) (topR (R k) S)
    by_cases e : f = k
    · subst e
      have := topR_hit h hs
      omega
    · have := topM_hit hs h (k := k) (by omega)
      omega
theorem topM_is {R : Nat → Nat → Int} {S : Nat} : ∀ {k : Nat}, topM R S k ≠ 0 → ∃ f s, f < k ∧ s < S ∧ R f s ≠ 0 ∧ topM R S k = s + 1
  | 0, h => absurd rfl h
  | k + 1, h => by
    have e : topM R S (k + 1) = max (topM R S k) (topR (R k) S) := rfl
    rw [e] at h ⊢
    by_cases g : topM R S k ≤ topR (R k) S
    · rw [Nat.max_eq_right g] at h ⊢
      obtain ⟨s, h1, h2, h3⟩ := topR_is h
      exact ⟨k, s, by omega, h1, h2, h3⟩
    · rw [Nat.max_eq_left (by omega)] at h ⊢
      obtain ⟨f, s, h1, h2⟩ := topM_is h
      exact ⟨f, s, by omega, h2⟩
/-- The highest end of the first lights. -/
def topL (L : Nat → Li) : Nat → Int
  | 0 => 0
  | k + 1 => if topL L k < (L k).fi + (L k).wd then (L k).fi + (L k).wd else topL L k
theorem topL_pos (L : Nat → Li) : ∀ k, 0 ≤ topL L k
  | 0 => Int.le_refl _
  | k + 1 => by
    have := topL_pos L k
    show 0 ≤ (if topL L k < (L k).fi + (L k).wd then (L k).fi + (L k).wd else topL L k)
    split <;> omega
theorem topL_hit {L : Nat → Li} {i : Nat} : ∀ {k : Nat}, i < k → (L i).fi + (L i).wd ≤ topL L k
  | 0, h => absurd h (Nat.not_lt_zero _)
  | k + 1, h => by
    show _ ≤ (if topL L k < (L k).fi + (L k).wd then (L k).fi + (L k).wd else topL L k)
    by_cases e : i = k
    · subst e; split <;> omega
    · have := topL_hit (L := L) (k := k) (i := i) (by omega)
      split <;> omega
theorem topL_is {L : Nat → Li} : ∀ {k : Nat}, topL L k ≠ 0 → ∃ i, i < k ∧ topL L k = (L i).fi + (L i).wd
  | 0, h => absurd rfl h
  | k + 1, h => by
    have e : topL L (k + 1) = if topL L k < (L k).fi + (L k).wd then (L k).fi + (L k).wd else topL L k := rfl
    rw [e] at h ⊢
    by_cases g : topL L k < (L k).fi + (L k).wd
    · rw [if_pos g]; exact ⟨k, by omega, rfl⟩
    · rw [if_neg g] at h ⊢
      obtain ⟨i, h1, h2⟩ := topL_is h
      exact ⟨i, by omega, h2⟩
/-- A light's slots lie on the rows of its net. -/
theorem AllOk.slot {nodes slots : Int} {nf : Nat} {F : Nat → Fb} {n : Nat} {L : Nat → Li} (h : AllOk nodes slots nf F n L) {i : Nat} (hi : i < n) {f s : Int} (hs : hasS (L i) f s = true) : 0 ≤ f ∧ f < nf ∧ 0 ≤ s ∧ s < slots := by
  obtain ⟨⟨k, hk, rfl⟩, h1, h2⟩ := hasS_iff.1 hs
  have a := h.ok i hi
  have b := a.fib hk
  have c := And.intro a.w1 (And.intro a.f0 a.top)
  omega
theorem top_same {nodes slots : Int} {nf : Nat} {F : Nat → Fb} {n : Nat} {L : Nat → Li} (h : AllOk nodes slots nf F n L) : ((topM (fun f s => bk L n f s) slots.toNat nf : Nat) : Int) = topL L n := by
  have h1 : ((topM (fun f s => bk L n f s) slots.toNat nf : Nat) : Int) ≤ topL L n := by
    by_cases z : topM (fun f s => bk L n f s) slots.toNat nf = 0
    · rw [z]; exact topL_pos L n
    · obtain ⟨f, s, _, _, h3, h4⟩ := topM_is z
      obtain ⟨i, hi, hs⟩ := h.bk_pos.1 h3
      have := (hasS_iff.1 hs).2.2
      have g := topL_hit (L := L) hi
      omega
  have h2 : topL L n ≤ ((topM (fun f s => bk L n f s) slots.toNat nf : Nat) : Int) := by
    by_cases z : topL L n = 0
    · rw [z]; omega
    · obtain ⟨i, hi, e⟩ := topL_is z
      have a := h.ok i hi
      have r := And.intro a.w1 (And.intro a.f0 a.top)
      have hs : hasS (L i) ((L i).p 0) ((L i).fi + (L i).wd - 1) = true := hasS_iff.2 ⟨⟨0, a.one, rfl⟩, by omega, by omega⟩
      have b := h.slot hi hs
      have hb := h.bk_pos.2 ⟨i, hi, hs⟩
      have g := topM_hit (R := fun f s => bk L n f s) (S := slots.toNat) (f := ((L i).p 0).toNat) (s := ((L i).fi + (L i).wd - 1).toNat) (by omega) (by
        show bk L n (((L i).p 0).toNat : Int) (((L i).fi + (L i).wd - 1).toNat : Int) ≠ 0
        rw [Int.toNat_of_nonneg b.1, Int.toNat_of_nonneg b.2.2.1]; exact hb) (k := nf) (by omega)
      omega
  omega
/-- The holes of the first rows. -/
def holM (R : Nat → Nat → Int) (S : Nat) : Nat → Nat
  | 0 => 0
  | k + 1 => holM R S k + cntz (R k) (topR (R k) S)
theorem holM_le (R : Nat → Nat → Int) (S : Nat) : ∀ k, holM R S k ≤ k * S
  | 0 => by simp [holM]
  | k + 1 => by
    have h1 := holM_le R S k
    have h2 := cntz_le (R k) (topR (R k) S)
    have h3 := topR_le (R k) S
    show holM R S k + cntz (R k) (topR (R k) S) ≤ (k + 1) * S
    rw [Nat.succ_mul]
    omega
theorem cntz_mono (f : Nat → Int) : ∀ {m n : Nat}, m ≤ n → cntz f m ≤ cntz f n
  | m, 0, h => by rw [show m = 0 from by omega]; exact Nat.le_refl _
  | m, n + 1, h => by
    by_cases e : m = n + 1
    · rw [e]; exact Nat.le_refl _
    · have := cntz_mono f (m := m) (n := n) (by omega)
      show _ ≤ cntz f n + (if f n = 0 then 1 else 0)
      omega
/-- The free slots behind the highest one so far. -/
def freeR (f : Nat → Int) (n : Nat) : Nat := cntz f n - cntz f (topR f n)
theorem free_nil (f : Nat → Int) : freeR f 0 = 0 := rfl
theorem free_next {f : Nat → Int} {n : Nat} (h : f n = 0) : freeR f (n + 1) = freeR f n + 1 ∧ topR f (n + 1) = topR f n := by
  have e : topR f (n + 1) = topR f n := by show (if f n ≠ 0 then n + 1 else topR f n) = _; rw [if_neg (by simp [h])]
  refine ⟨?_, e⟩
  unfold freeR
  rw [e]
  have a : cntz f (n + 1) = cntz f n + 1 := by show cntz f n + (if f n = 0 then 1 else 0) = _; rw [if_pos h]
  have b := cntz_mono f (topR_le f n)
  omega
theorem free_end {f : Nat → Int} {n : Nat} (h : f n ≠ 0) : freeR f (n + 1) = 0 ∧ cntz f (topR f (n + 1)) = cntz f (topR f n) + freeR f n := by
  have e : topR f (n + 1) = n + 1 := by show (if f n ≠ 0 then n + 1 else topR f n) = _; rw [if_pos h]
  have a : cntz f (n + 1) = cntz f n := by show cntz f n + (if f n = 0 then 1 else 0) = _; rw [if_neg h]; rfl
  have b := cntz_mono f (topR_le f n)
  unfold freeR
  rw [e, a]
  omega
end Go.Proofs.Ytinfbbbgfkaioaa.Nt
