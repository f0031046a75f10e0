/- Merging two sorted stretches by a rotation and two lesser merges; a place moved step by step; two sorted arrangements of one list. Plain laws, no program. -/
import Derived.Test.YtbhpdlhmkmkbhaaSrtMath
namespace Go.Proofs.Ytbhpdlhmkmkbhaa.Sr
variable {κ : Nat → Nat}
theorem down_start (f : Nat → Nat) (a : Nat) : ∀ k, down f a (a + 1) k = f k := by
  intro k; unfold down
  repeat' split
  all_goals first | rfl | (exfalso; omega) | (congr 1; omega)
theorem down_step (f : Nat → Nat) (a k : Nat) (h : a ≤ k) : ∀ t, sw (down f a (k + 1)) k (k + 1) t = down f a (k + 2) t := by
  intro t; unfold sw down
  repeat' split
  all_goals first | rfl | (exfalso; omega) | (congr 1; omega)
theorem up_start (f : Nat → Nat) (m : Nat) : ∀ k, up f m m k = f k := by
  intro k; unfold up
  repeat' split
  all_goals first | rfl | (exfalso; omega) | (congr 1; omega)
theorem up_step (f : Nat → Nat) (k m : Nat) (h : k + 1 ≤ m) : ∀ t, sw (up f (k + 1) m) (k + 1) k t = up f k m t := by
  intro t; unfold sw up
  repeat' split
  all_goals first | rfl | (exfalso; omega) | (congr 1; omega)
/-- Behind the rotation: four sorted stretches, the first two not above the last two. -/
theorem rotated {a m b s e mid : Nat} {f g : Nat → Nat} (h1 : Srt κ a m f) (h2 : Srt κ m b f) (hs1 : a ≤ s) (hs2 : s ≤ m) (he1 : m ≤ e) (he2 : e ≤ b) (hse : s + e = mid + m)
    (hL : s = a ∨ e = b ∨ κ (f (s - 1)) ≤ κ (f e)) (hR : s = m ∨ e = m ∨ κ (f (e - 1)) ≤ κ (f s)) (hg : ∀ k, g k = rot f s m e k) :
    Srt κ a s g ∧ Srt κ s mid g ∧ Srt κ mid e g ∧ Srt κ e b g ∧ ∀ i j, a ≤ i → i < mid → mid ≤ j → j < b → κ (g i) ≤ κ (g j) := by
  have e1 : ∀ k, k < s → g k = f k := fun k hk => by rw [hg]; unfold rot; rw [if_neg (by omega), if_neg (by omega)]
  have e2 : ∀ k, s ≤ k → k < mid → g k = f (k + (m - s)) := fun k h1 h2 => by rw [hg]; unfold rot; rw [if_pos (by omega)]
  have e3 : ∀ k, mid ≤ k → k < e → g k = f (k - (e - m)) := fun k h1 h2 => by rw [hg]; unfold rot; rw [if_neg (by omega), if_pos (by omega)]
  have e4 : ∀ k, e ≤ k → g k = f k := fun k hk => by rw [hg]; unfold rot; rw [if_neg (by omega), if_neg (by omega)]
  refine ⟨fun i j a1 a2 a3 => ?_, fun i j a1 a2 a3 => ?_, fun i j a1 a2 a3 => ?_, fun i j a1 a2 a3 => ?_, fun i j a1 a2 a3 a4 => ?_⟩
  · rw [e1 i (by omega), e1 j a3]; exact h1 i j a1 a2 (by omega)
  · rw [e2 i a1 (by omega), e2 j (by omega) a3]; exact h2 _ _ (by omega) (by omega) (by omega)
  · rw [e3 i a1 (by omega), e3 j (by omega) a3]; exact h1 _ _ (by omega) (by omega) (by omega)
  · rw [e4 i a1, e4 j (by omega)]; exact h2 i j (by omega) a2 a3
  · by_cases c1 : i < s
    · rw [e1 i c1]
      by_cases c2 : j < e
      · rw [e3 j a3 c2]; exact h1 _ _ a1 (by omega) (by omega)
      · rw [e4 j (by omega)]
        rcases hL with d | d | d
        · omega
        · omega
        · exact Nat.le_trans (h1 i (s - 1) a1 (by omega) (by omega)) (Nat.le_trans d (h2 e j (by omega) (by omega) a4))
    · rw [e2 i (by omega) a2]
      by_cases c2 : j < e
      · rw [e3 j a3 c2]
        rcases hR with d | d | d
        · omega
        · omega
        · exact Nat.le_trans (h2 _ (e - 1) (by omega) (by omega) (by omega)) (Nat.le_trans d (h1 s _ hs1 (by omega) (by omega)))
      · rw [e4 j (by omega)]; exact h2 _ _ (by omega) (by omega) a4
theorem merged {a mid b : Nat} {g g1 g2 : Nat → Nat} (hm1 : a ≤ mid) (hm2 : mid ≤ b) (p1 : Pm a mid g g1) (s1 : Srt κ a mid g1) (p2 : Pm mid b g1 g2) (s2 : Srt κ mid b g2)
    (h : ∀ i j, a ≤ i → i < mid → mid ≤ j → j < b → κ (g i) ≤ κ (g j)) : Srt κ a b g2 ∧ Pm a b g g2 := by
  refine ⟨Srt.join (s1.congr fun k k1 k2 => p2.out (Or.inl k2)) s2 fun i j a1 a2 a3 a4 => ?_, (p1.wide (Nat.le_refl _) hm2).trans (p2.wide hm1 (Nat.le_refl _))⟩
  obtain ⟨i', b1, b2, b3⟩ := p1.mem a1 a2
  obtain ⟨j', c1, c2, c3⟩ := p2.mem a3 a4
  rw [p2.out (Or.inl a2), b3, c3, p1.out (Or.inr c1)]
  exact h i' j' b1 b2 c1 c2
/-! ### Two sorted arrangements of one list -/
theorem pigeon : ∀ (n : Nat) (f : Nat → Nat), (∀ k, k ≤ n → f k < n) → (∀ i j, i ≤ n → j ≤ n → f i = f j → i = j) → False
  | 0, f, h, _ => absurd (h 0 (Nat.le_refl _)) (Nat.not_lt_zero _)
  | n + 1, f, h, inj => by
    refine pigeon n (fun k => if f k = n then f (n + 1) else f k) (fun k hk => ?_) (fun i j hi hj e => ?_)
    · show (if f k = n then f (n + 1) else f k) < n
      have h1 := h k (by omega)
      have h2 := h (n + 1) (Nat.le_refl _)
      split
      · rename_i c
        have : f (n + 1) ≠ n := fun d => by
          have := inj (n + 1) k (Nat.le_refl _) (by omega) (by rw [d, c])
          omega
        omega
      · omega
    · have e' : (if f i = n then f (n + 1) else f i) = (if f j = n then f (n + 1) else f j) := e
      by_cases c1 : f i = n <;> by_cases c2 : f j = n
      · exact inj i j (by omega) (by omega) (by rw [c1, c2])
      · rw [if_pos c1, if_neg c2] at e'
        have := inj (n + 1) j (Nat.le_refl _) (by omega) e'
        omega
      · rw [if_neg c1, if_pos c2] at e'
        have := inj i (n + 1) (by omega) (Nat.le_refl _) e'
        omega
      · rw [if_neg c1, if_neg c2] at e'
        exact inj i j (by omega) (by omega) e'
theorem not_less {n : Nat} {g h : Nat → Nat} (p : Pm 0 n g h) (sg : Srt κ 0 n g) (sh : Srt κ 0 n h) {i : Nat} (hi : i < n) : ¬ κ (g i) < κ (h i) := by
  intro hlt
  obtain ⟨s, t, e1, e2, e3, e4⟩ := p
  -- g k = h (t k)
  have e5 : ∀ k, g k = h (t k) := fun k => by rw [e4, e1]
  have tin : ∀ k, k < n → t k < n := fun k hk => by
    rcases Nat.lt_or_ge (t k) n with c | c
    · exact c
    · have := e3 (t k) (Or.inr c)
      rw [e1] at this
      omega
  refine pigeon i t (fun k hk => ?_) (fun a b _ _ e => ?_)
  · rcases Nat.lt_or_ge (t k) i with c | c
    · exact c
    · exfalso
      have h1 := sg k i (Nat.zero_le _) hk hi
      have h2 := sh i (t k) (Nat.zero_le _) c (tin k (by omega))
      rw [← e5] at h2
      omega
  · have : s (t a) = s (t b) := by rw [e]
    rw [e1, e1] at this
    exact this
theorem Pm.symm {a b : Nat} {f g : Nat → Nat} (p : Pm a b f g) : Pm a b g f := by
  obtain ⟨s, t, e1, e2, e3, e4⟩ := p
  refine ⟨t, s, e2, e1, fun k hk => ?_, fun k => by rw [e4, e1]⟩
  have := e3 k hk
  have h2 : t (s k) = t k := by rw [this]
  rw [e2] at h2
  exact h2.symm
/-- They have the same keys place by place. -/
theorem same_keys {n : Nat} {f g h : Nat → Nat} (p : Pm 0 n f g) (q : Pm 0 n f h) (sg : Srt κ 0 n g) (sh : Srt κ 0 n h) : ∀ i, i < n → κ (g i) = κ (h i) := fun i hi => by
  have r : Pm 0 n g h := p.symm.trans q
  have h1 := not_less r sg sh hi
  have h2 := not_less r.symm sh sg hi
  omega
end Go.Proofs.Ytbhpdlhmkmkbhaa.Sr
