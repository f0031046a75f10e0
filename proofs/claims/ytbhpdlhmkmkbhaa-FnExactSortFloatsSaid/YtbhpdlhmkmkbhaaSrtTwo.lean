/- Merging two sorted lists into a new one. Plain laws, no program. -/
import Derived.Test.YtbhpdlhmkmkbhaaSrtMerge
namespace Go.Proofs.Ytbhpdlhmkmkbhaa.Sr
variable {κ : Nat → Nat}
/-- Two lists, one behind the other. -/
def cat (na : Nat) (ga gb : Nat → Nat) : Nat → Nat := fun k => if k < na then ga k else gb (k - na)
/-- k places of the new list h are laid, i of the first and j of the second list are taken. -/
structure Mg (κ : Nat → Nat) (na nb : Nat) (ga gb h : Nat → Nat) (k i j : Nat) : Prop where
  sum : k = i + j
  li : i ≤ na
  lj : j ≤ nb
  perm : ∃ s t : Nat → Nat, (∀ p, p < k → (s p < i ∨ (na ≤ s p ∧ s p < na + j)) ∧ t (s p) = p ∧ h p = cat na ga gb (s p)) ∧ ∀ x, (x < i ∨ (na ≤ x ∧ x < na + j)) → t x < k ∧ s (t x) = x
  sorted : ∀ p q, p ≤ q → q < k → κ (h p) ≤ κ (h q)
  belowA : ∀ p, p < k → i < na → κ (h p) ≤ κ (ga i)
  belowB : ∀ p, p < k → j < nb → κ (h p) ≤ κ (gb j)
theorem Mg.start (na nb : Nat) (ga gb h : Nat → Nat) : Mg κ na nb ga gb h 0 0 0 :=
  ⟨rfl, Nat.zero_le _, Nat.zero_le _, ⟨id, id, fun p hp => by omega, fun x hx => by omega⟩, fun p q _ hq => by omega, fun p hp => by omega, fun p hp => by omega⟩
/-- The new list with one more. -/
def put (h : Nat → Nat) (k x : Nat) : Nat → Nat := fun p => if p = k then x else h p
theorem put_lt {h : Nat → Nat} {k x p : Nat} (hp : p < k) : put h k x p = h p := by unfold put; rw [if_neg (by omega)]
theorem put_at (h : Nat → Nat) (k x : Nat) : put h k x k = x := by unfold put; rw [if_pos rfl]
theorem perm_put {na : Nat} {ga gb h : Nat → Nat} {k i j i' j' src : Nat}
    (hp : ∃ s t : Nat → Nat, (∀ p, p < k → (s p < i ∨ (na ≤ s p ∧ s p < na + j)) ∧ t (s p) = p ∧ h p = cat na ga gb (s p)) ∧ ∀ x, (x < i ∨ (na ≤ x ∧ x < na + j)) → t x < k ∧ s (t x) = x)
    (hnew : ∀ x, (x < i' ∨ (na ≤ x ∧ x < na + j')) ↔ ((x < i ∨ (na ≤ x ∧ x < na + j)) ∨ x = src)) (hsrc : ¬ (src < i ∨ (na ≤ src ∧ src < na + j))) :
    ∃ s t : Nat → Nat, (∀ p, p < k + 1 → (s p < i' ∨ (na ≤ s p ∧ s p < na + j')) ∧ t (s p) = p ∧ put h k (cat na ga gb src) p = cat na ga gb (s p)) ∧ ∀ x, (x < i' ∨ (na ≤ x ∧ x < na + j')) → t x < k + 1 ∧ s (t x) = x := by
  obtain ⟨s, t, h1, h2⟩ := hp
  refine ⟨fun p => if p = k then src else s p, fun x => if x = src then k else t x, fun p hp => ?_, fun x hx => ?_⟩
  · by_cases c : p = k
    · subst c
      simp only [if_true]
      exact ⟨(hnew src).2 (Or.inr rfl), trivial, put_at _ _ _⟩
    · simp only [c, if_false]
      obtain ⟨a1, a2, a3⟩ := h1 p (by omega)
      have : s p ≠ src := fun e => hsrc (e ▸ a1)
      rw [if_neg this]
      exact ⟨(hnew _).2 (Or.inl a1), a2, by rw [put_lt (by omega)]; exact a3⟩
  · by_cases c : x = src
    · subst c
      simp only [if_true]
      exact ⟨by omega, trivial⟩
    · simp only [c, if_false]
      have hx' : x < i ∨ (na ≤ x ∧ x < na + j) := by
        rcases (hnew x).1 hx with d | d
        · exact d
        · exact absurd d c
      obtain ⟨b1, b2⟩ := h2 x hx'
      rw [if_neg (by omega)]
      exact ⟨by omega, b2⟩
theorem Mg.takeA {na nb : Nat} {ga gb h : Nat → Nat} {k i j : Nat} (m : Mg κ na nb ga gb h k i j) (sa : Srt κ 0 na ga) (hi : i < na) (hc : j = nb ∨ κ (ga i) ≤ κ (gb j)) : Mg κ na nb ga gb (put h k (ga i)) (k + 1) (i + 1) j := by
  have e : ga i = cat na ga gb i := by unfold cat; rw [if_pos hi]
  have lj := m.lj
  refine ⟨by have := m.sum; omega, hi, lj, ?_, fun p q h1 h2 => ?_, fun p hp h3 => ?_, fun p hp h3 => ?_⟩
  · rw [e]
    refine perm_put m.perm (fun x => ?_) (by omega)
    omega
  · by_cases c : q = k
    · subst c
      rw [put_at]
      by_cases d : p = q
      · subst d; rw [put_at]; exact Nat.le_refl _
      · rw [put_lt (by omega)]; exact m.belowA p (by omega) hi
    · rw [put_lt (by omega), put_lt (by omega)]; exact m.sorted p q h1 (by omega)
  · by_cases c : p = k
    · subst c; rw [put_at]; exact sa i (i + 1) (by omega) (by omega) h3
    · rw [put_lt (by omega)]; exact Nat.le_trans (m.belowA p (by omega) hi) (sa i (i + 1) (by omega) (by omega) h3)
  · by_cases c : p = k
    · subst c; rw [put_at]
      rcases hc with d | d
      · omega
      · exact d
    · rw [put_lt (by omega)]; exact m.belowB p (by omega) h3
theorem Mg.takeB {na nb : Nat} {ga gb h : Nat → Nat} {k i j : Nat} (m : Mg κ na nb ga gb h k i j) (sb : Srt κ 0 nb gb) (hj : j < nb) (hc : i = na ∨ κ (gb j) ≤ κ (ga i)) : Mg κ na nb ga gb (put h k (gb j)) (k + 1) i (j + 1) := by
  have e : gb j = cat na ga gb (na + j) := by unfold cat; rw [if_neg (by omega)]; congr 1; omega
  have li := m.li
  refine ⟨by have := m.sum; omega, li, hj, ?_, fun p q h1 h2 => ?_, fun p hp h3 => ?_, fun p hp h3 => ?_⟩
  · rw [e]
    refine perm_put m.perm (fun x => ?_) (by omega)
    omega
  · by_cases c : q = k
    · subst c
      rw [put_at]
      by_cases d : p = q
      · subst d; rw [put_at]; exact Nat.le_refl _
      · rw [put_lt (by omega)]; exact m.belowB p (by omega) hj
    · rw [put_lt (by omega), put_lt (by omega)]; exact m.sorted p q h1 (by omega)
  · by_cases c : p = k
    · subst c; rw [put_at]
      rcases hc with d | d
      · omega
      · exact d
    · rw [put_lt (by omega)]; exact m.belowA p (by omega) h3
  · by_cases c : p = k
    · subst c; rw [put_at]; exact sb j (j + 1) (by omega) (by omega) h3
    · rw [put_lt (by omega)]; exact Nat.le_trans (m.belowB p (by omega) hj) (sb j (j + 1) (by omega) (by omega) h3)
/-- The whole: h with what stood behind. -/
def clip (n : Nat) (h f : Nat → Nat) : Nat → Nat := fun k => if k < n then h k else f k
theorem cat_perm {na nb : Nat} {f ga gb : Nat → Nat} (p : Pm 0 na f ga) (q : Pm 0 nb (fun i => f (na + i)) gb) : Pm 0 (na + nb) f (clip (na + nb) (cat na ga gb) f) := by
  obtain ⟨s, t, a1, a2, a3, a4⟩ := p
  obtain ⟨u, v, b1, b2, b3, b4⟩ := q
  have sin : ∀ k, k < na → s k < na := fun k hk => by
    rcases Nat.lt_or_ge (s k) na with c | c
    · exact c
    · have := a3 (s k) (Or.inr c)
      have h2 : t (s (s k)) = t (s k) := by rw [this]
      rw [a2, a2] at h2
      omega
  have tin : ∀ k, k < na → t k < na := fun k hk => by
    rcases Nat.lt_or_ge (t k) na with c | c
    · exact c
    · have := a3 (t k) (Or.inr c)
      rw [a1] at this
      omega
  have uin : ∀ k, k < nb → u k < nb := fun k hk => by
    rcases Nat.lt_or_ge (u k) nb with c | c
    · exact c
    · have := b3 (u k) (Or.inr c)
      have h2 : v (u (u k)) = v (u k) := by rw [this]
      rw [b2, b2] at h2
      omega
  have vin : ∀ k, k < nb → v k < nb := fun k hk => by
    rcases Nat.lt_or_ge (v k) nb with c | c
    · exact c
    · have := b3 (v k) (Or.inr c)
      rw [b1] at this
      omega
  refine ⟨fun k => if k < na then s k else if k < na + nb then na + u (k - na) else k, fun k => if k < na then t k else if k < na + nb then na + v (k - na) else k, fun k => ?_, fun k => ?_, fun k hk => ?_, fun k => ?_⟩
  · by_cases c : k < na
    · have := tin k c
      simp only [c, this, if_true]; exact a1 k
    · by_cases d : k < na + nb
      · have := vin (k - na) (by omega)
        simp only [c, d, if_true, if_false]
        rw [if_neg (by omega), if_pos (by omega), show na + v (k - na) - na = v (k - na) by omega, b1]
        omega
      · simp only [c, d, if_false]
  · by_cases c : k < na
    · have := sin k c
      simp only [c, this, if_true]; exact a2 k
    · by_cases d : k < na + nb
      · have := uin (k - na) (by omega)
        simp only [c, d, if_true, if_false]
        rw [if_neg (by omega), if_pos (by omega), show na + u (k - na) - na = u (k - na) by omega, b2]
        omega
      · simp only [c, d, if_false]
  · show (if k < na then s k else if k < na + nb then na + u (k - na) else k) = k
    rw [if_neg (by omega), if_neg (by omega)]
  · show clip (na + nb) (cat na ga gb) f k = f (if k < na then s k else if k < na + nb then na + u (k - na) else k)
    unfold clip cat
    by_cases c : k < na
    · rw [if_pos (by omega), if_pos c, if_pos c, a4]
    · by_cases d : k < na + nb
      · rw [if_pos d, if_neg c, if_neg c, if_pos d, b4]
      · rw [if_neg d, if_neg c, if_neg d]
theorem Mg.whole {na nb : Nat} {f ga gb h : Nat → Nat} (m : Mg κ na nb ga gb h (na + nb) na nb) (p : Pm 0 na f ga) (q : Pm 0 nb (fun i => f (na + i)) gb) : Pm 0 (na + nb) f (clip (na + nb) h f) ∧ Srt κ 0 (na + nb) (clip (na + nb) h f) := by
  constructor
  · refine (cat_perm p q).trans ?_
    obtain ⟨s, t, h1, h2⟩ := m.perm
    refine ⟨fun k => if k < na + nb then s k else k, fun k => if k < na + nb then t k else k, fun k => ?_, fun k => ?_, fun k hk => ?_, fun k => ?_⟩
    · by_cases c : k < na + nb
      · obtain ⟨b1, b2⟩ := h2 k (by omega)
        simp only [c, b1, if_true]; exact b2
      · simp only [c, if_false]
    · by_cases c : k < na + nb
      · obtain ⟨b1, b2, b3⟩ := h1 k c
        have : s k < na + nb := by omega
        simp only [c, this, if_true]; exact b2
      · simp only [c, if_false]
    · show (if k < na + nb then s k else k) = k
      rw [if_neg (by omega)]
    · unfold clip
      by_cases c : k < na + nb
      · obtain ⟨b1, b2, b3⟩ := h1 k c
        have : s k < na + nb := by omega
        simp only [c, this, if_true]; exact b3
      · simp only [c, if_false]
  · intro i j _ h1 h2
    unfold clip
    rw [if_pos (by omega), if_pos h2]
    exact m.sorted i j h1 h2
end Go.Proofs.Ytbhpdlhmkmkbhaa.Sr
