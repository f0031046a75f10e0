/- Arrangements of a list: permutations within a stretch, sorted stretches, insertion, merging by rotation. Plain laws, no program. -/
namespace Go.Proofs.Ytbhpdlhmkmkbhaa.Sr
/-- g is f with the places a .. b-1 permuted. -/
def Pm (a b : Nat) (f g : Nat → Nat) : Prop :=
  ∃ s t : Nat → Nat, (∀ k, s (t k) = k) ∧ (∀ k, t (s k) = k) ∧ (∀ k, (k < a ∨ b ≤ k) → s k = k) ∧ ∀ k, g k = f (s k)
theorem Pm.refl (a b : Nat) (f : Nat → Nat) : Pm a b f f := ⟨id, id, fun _ => rfl, fun _ => rfl, fun _ _ => rfl, fun _ => rfl⟩
theorem Pm.trans {a b : Nat} {f g h : Nat → Nat} (p : Pm a b f g) (q : Pm a b g h) : Pm a b f h := by
  obtain ⟨s, t, h1, h2, h3, h4⟩ := p
  obtain ⟨s', t', k1, k2, k3, k4⟩ := q
  refine ⟨fun k => s (s' k), fun k => t' (t k), fun k => ?_, fun k => ?_, fun k hk => ?_, fun k => ?_⟩
  · show s (s' (t' (t k))) = k
    rw [k1, h1]
  · show t' (t (s (s' k))) = k
    rw [h2, k2]
  · show s (s' k) = k
    rw [k3 k hk, h3 k hk]
  · show h k = f (s (s' k))
    rw [k4, h4]
theorem Pm.wide {a b a' b' : Nat} {f g : Nat → Nat} (p : Pm a b f g) (ha : a' ≤ a) (hb : b ≤ b') : Pm a' b' f g := by
  obtain ⟨s, t, h1, h2, h3, h4⟩ := p
  exact ⟨s, t, h1, h2, fun k hk => h3 k (by omega), h4⟩
theorem Pm.out {a b : Nat} {f g : Nat → Nat} (p : Pm a b f g) {k : Nat} (hk : k < a ∨ b ≤ k) : g k = f k := by
  obtain ⟨s, t, h1, h2, h3, h4⟩ := p
  rw [h4, h3 k hk]
theorem Pm.mem {a b : Nat} {f g : Nat → Nat} (p : Pm a b f g) {k : Nat} (h1 : a ≤ k) (h2 : k < b) : ∃ j, a ≤ j ∧ j < b ∧ g k = f j := by
  obtain ⟨s, t, e1, e2, e3, e4⟩ := p
  refine ⟨s k, ?_, ?_, e4 k⟩
  · rcases Nat.lt_or_ge (s k) a with c | c
    · have := e3 (s k) (Or.inl c)
      have : t (s (s k)) = t (s k) := by rw [this]
      rw [e2, e2] at this
      omega
    · exact c
  · rcases Nat.lt_or_ge (s k) b with c | c
    · exact c
    · have := e3 (s k) (Or.inr c)
      have : t (s (s k)) = t (s k) := by rw [this]
      rw [e2, e2] at this
      omega
theorem Pm.congr {a b : Nat} {f g g' : Nat → Nat} (p : Pm a b f g) (h : ∀ k, g' k = g k) : Pm a b f g' := by
  obtain ⟨s, t, h1, h2, h3, h4⟩ := p
  exact ⟨s, t, h1, h2, h3, fun k => by rw [h, h4]⟩
/-- Two places exchanged. -/
def sw (f : Nat → Nat) (i j : Nat) : Nat → Nat := fun k => if k = i then f j else if k = j then f i else f k
theorem Pm.swap {a b i j : Nat} (f : Nat → Nat) (hi : a ≤ i ∧ i < b) (hj : a ≤ j ∧ j < b) : Pm a b f (sw f i j) := by
  have inv : ∀ k, sw id i j (sw id i j k) = k := by
    intro k
    unfold sw
    simp only [id]
    by_cases h1 : k = i
    · subst h1; simp
    · by_cases h2 : k = j
      · subst h2; simp [h1]
      · simp [h1, h2]
  refine ⟨sw id i j, sw id i j, inv, inv, fun k hk => ?_, fun k => ?_⟩
  · unfold sw; simp only [id]
    rw [if_neg (by omega), if_neg (by omega)]
  · unfold sw; simp only [id]
    by_cases h1 : k = i
    · rw [if_pos h1, if_pos h1]
    · rw [if_neg h1, if_neg h1]
      by_cases h2 : k = j
      · rw [if_pos h2, if_pos h2]
      · rw [if_neg h2, if_neg h2]
/-- Two stretches of n places exchanged. -/
def xch (f : Nat → Nat) (p q n : Nat) : Nat → Nat := fun k => if p ≤ k ∧ k < p + n then f (k - p + q) else if q ≤ k ∧ k < q + n then f (k - q + p) else f k
theorem Pm.xch {a b p q n : Nat} (f : Nat → Nat) (hp : a ≤ p) (hpq : p + n ≤ q) (hq : q + n ≤ b) : Pm a b f (xch f p q n) := by
  have inv : ∀ k, Sr.xch id p q n (Sr.xch id p q n k) = k := by
    intro k
    unfold Sr.xch
    simp only [id]
    by_cases h1 : p ≤ k ∧ k < p + n
    · rw [if_pos h1, if_neg (by omega), if_pos (by omega)]; omega
    · rw [if_neg h1]
      by_cases h2 : q ≤ k ∧ k < q + n
      · rw [if_pos h2, if_pos (by omega)]; omega
      · rw [if_neg h2, if_neg h1, if_neg h2]
  refine ⟨Sr.xch id p q n, Sr.xch id p q n, inv, inv, fun k hk => ?_, fun k => ?_⟩
  · unfold Sr.xch; simp only [id]
    rw [if_neg (by omega), if_neg (by omega)]
  · unfold Sr.xch; simp only [id]
    by_cases h1 : p ≤ k ∧ k < p + n
    · rw [if_pos h1, if_pos h1]
    · rw [if_neg h1, if_neg h1]
      by_cases h2 : q ≤ k ∧ k < q + n
      · rw [if_pos h2, if_pos h2]
      · rw [if_neg h2, if_neg h2]
/-- The stretches a .. m-1 and m .. b-1 change places. -/
def rot (f : Nat → Nat) (a m b : Nat) : Nat → Nat := fun k => if a ≤ k ∧ k < a + (b - m) then f (k + (m - a)) else if a + (b - m) ≤ k ∧ k < b then f (k - (b - m)) else f k
theorem rot_more {f : Nat → Nat} {m i j : Nat} (hi : i ≤ m) (h : j < i) : ∀ k, rot (xch f (m - i) m j) (m - (i - j)) m (m + j) k = rot f (m - i) m (m + j) k := by
  intro k
  unfold rot xch
  rw [show m + j - m = j by omega, show m - (m - (i - j)) = i - j by omega, show m - (m - i) = i by omega]
  repeat' split
  all_goals first | rfl | (exfalso; omega) | (congr 1; omega)
theorem rot_less {f : Nat → Nat} {m i j : Nat} (hi : i ≤ m) (h : i < j) : ∀ k, rot (xch f (m - i) (m + j - i) i) (m - i) m (m + (j - i)) k = rot f (m - i) m (m + j) k := by
  intro k
  unfold rot xch
  rw [show m + j - m = j by omega, show m + (j - i) - m = j - i by omega, show m - (m - i) = i by omega]
  repeat' split
  all_goals first | rfl | (exfalso; omega) | (congr 1; omega)
theorem rot_even {f : Nat → Nat} {m i : Nat} (hi : i ≤ m) : ∀ k, xch f (m - i) m i k = rot f (m - i) m (m + i) k := by
  intro k
  unfold rot xch
  rw [show m + i - m = i by omega, show m - (m - i) = i by omega]
  repeat' split
  all_goals first | rfl | (exfalso; omega) | (congr 1; omega)
/-! ### Sorted stretches, by a key -/
variable {κ : Nat → Nat}
def Srt (κ : Nat → Nat) (a b : Nat) (f : Nat → Nat) : Prop := ∀ i j, a ≤ i → i ≤ j → j < b → κ (f i) ≤ κ (f j)
theorem Srt.congr {a b : Nat} {f g : Nat → Nat} (h : Srt κ a b f) (e : ∀ k, a ≤ k → k < b → g k = f k) : Srt κ a b g := fun i j h1 h2 h3 => by
  rw [e i h1 (by omega), e j (by omega) h3]; exact h i j h1 h2 h3
theorem Srt.sub {a b a' b' : Nat} {f : Nat → Nat} (h : Srt κ a b f) (ha : a ≤ a') (hb : b' ≤ b) : Srt κ a' b' f := fun i j h1 h2 h3 => h i j (by omega) h2 (by omega)
theorem Srt.small {a b : Nat} (f : Nat → Nat) (h : b ≤ a + 1) : Srt κ a b f := fun i j h1 h2 h3 => by
  obtain rfl : i = j := by omega
  exact Nat.le_refl _
theorem Srt.join {a m b : Nat} {f : Nat → Nat} (h1 : Srt κ a m f) (h2 : Srt κ m b f) (h : ∀ i j, a ≤ i → i < m → m ≤ j → j < b → κ (f i) ≤ κ (f j)) : Srt κ a b f := fun i j k1 k2 k3 => by
  by_cases c : j < m
  · exact h1 i j k1 k2 c
  · by_cases d : i < m
    · exact h i j k1 d (by omega) k3
    · exact h2 i j (by omega) k2 k3
/-- Insertion under way: the places a .. i are sorted but for that of j, which is not above those behind it. -/
def Ins (κ : Nat → Nat) (a i j : Nat) (f : Nat → Nat) : Prop := (∀ p q, a ≤ p → p < q → q ≤ i → p ≠ j → q ≠ j → κ (f p) ≤ κ (f q)) ∧ ∀ q, j < q → q ≤ i → κ (f j) ≤ κ (f q)
theorem Ins.start {a i : Nat} {f : Nat → Nat} (h : Srt κ a i f) : Ins κ a i i f :=
  ⟨fun p q h1 h2 h3 _ h5 => h p q h1 (by omega) (by omega), fun q h1 h2 => by omega⟩
theorem Ins.step {a i j : Nat} {f : Nat → Nat} (h : Ins κ a i j f) (hj : a < j) (hji : j ≤ i) (hlt : κ (f j) < κ (f (j - 1))) : Ins κ a i (j - 1) (sw f j (j - 1)) := by
  obtain ⟨h1, h2⟩ := h
  have e1 : sw f j (j - 1) j = f (j - 1) := by simp [sw]
  have e2 : sw f j (j - 1) (j - 1) = f j := by
    unfold sw; rw [if_neg (by omega), if_pos rfl]
  have e3 : ∀ k, k ≠ j → k ≠ j - 1 → sw f j (j - 1) k = f k := fun k a b => by unfold sw; rw [if_neg a, if_neg b]
  constructor
  · intro p q a1 a2 a3 a4 a5
    by_cases c1 : p = j
    · subst c1
      rw [e1, e3 q (by omega) a5]
      exact h1 (p - 1) q (by omega) (by omega) a3 (by omega) (by omega)
    · by_cases c2 : q = j
      · subst c2
        rw [e1, e3 p c1 a4]
        exact h1 p (q - 1) a1 (by omega) (by omega) c1 (by omega)
      · rw [e3 p c1 a4, e3 q c2 a5]
        exact h1 p q a1 a2 a3 c1 c2
  · intro q a1 a2
    rw [e2]
    by_cases c : q = j
    · subst c; rw [e1]; omega
    · rw [e3 q c (by omega)]
      exact h2 q (by omega) a2
theorem Ins.done {a i j : Nat} {f : Nat → Nat} (h : Ins κ a i j f) (hji : j ≤ i) (hlo : a ≤ j) (hst : j = a ∨ κ (f (j - 1)) ≤ κ (f j)) : Srt κ a (i + 1) f := by
  obtain ⟨h1, h2⟩ := h
  intro p q a1 a2 a3
  by_cases e : p = q
  · subst e; exact Nat.le_refl _
  by_cases c1 : p = j
  · subst c1; exact h2 q (by omega) (by omega)
  · by_cases c2 : q = j
    · subst c2
      rcases hst with d | d
      · omega
      · by_cases c3 : p = q - 1
        · rw [c3]; exact d
        · exact Nat.le_trans (h1 p (q - 1) a1 (by omega) (by omega) c1 (by omega)) d
    · exact h1 p q a1 (by omega) (by omega) c1 c2
/-- The first place is moved behind those that are less. -/
def down (f : Nat → Nat) (a i : Nat) : Nat → Nat := fun k => if a ≤ k ∧ k + 1 < i then f (k + 1) else if k + 1 = i ∧ a ≤ k then f a else f k
theorem Srt.down {a b i : Nat} {f : Nat → Nat} (h : Srt κ (a + 1) b f) (hi : a + 1 ≤ i) (hib : i ≤ b) (hl : ∀ k, a + 1 ≤ k → k < i → κ (f k) ≤ κ (f a)) (hg : ∀ k, i ≤ k → k < b → κ (f a) ≤ κ (f k)) : Srt κ a b (down f a i) := by
  have e1 : ∀ k, a ≤ k → k + 1 < i → Sr.down f a i k = f (k + 1) := fun k h1 h2 => by unfold Sr.down; rw [if_pos ⟨h1, h2⟩]
  have e2 : Sr.down f a i (i - 1) = f a := by unfold Sr.down; rw [if_neg (by omega), if_pos (by omega)]
  have e3 : ∀ k, i ≤ k → Sr.down f a i k = f k := fun k h1 => by unfold Sr.down; rw [if_neg (by omega), if_neg (by omega)]
  intro p q a1 a2 a3
  by_cases c1 : p + 1 < i
  · rw [e1 p a1 c1]
    by_cases c2 : q + 1 < i
    · rw [e1 q (by omega) c2]; exact h _ _ (by omega) (by omega) (by omega)
    · by_cases c3 : q + 1 = i
      · rw [show q = i - 1 by omega, e2]; exact hl _ (by omega) c1
      · rw [e3 q (by omega)]; exact h _ _ (by omega) (by omega) a3
  · by_cases c2 : p + 1 = i
    · rw [show p = i - 1 by omega, e2]
      by_cases c3 : q + 1 = i
      · rw [show q = i - 1 by omega, e2]; exact Nat.le_refl _
      · rw [e3 q (by omega)]; exact hg q (by omega) a3
    · rw [e3 p (by omega), e3 q (by omega)]; exact h _ _ (by omega) a2 a3
/-- The last place is moved ahead of those that are greater. -/
def up (f : Nat → Nat) (i m : Nat) : Nat → Nat := fun k => if k = i then f m else if i < k ∧ k ≤ m then f (k - 1) else f k
theorem Srt.up {a m i : Nat} {f : Nat → Nat} (h : Srt κ a m f) (hi : a ≤ i) (him : i ≤ m) (hl : ∀ k, a ≤ k → k < i → κ (f k) ≤ κ (f m)) (hg : ∀ k, i ≤ k → k < m → κ (f m) ≤ κ (f k)) : Srt κ a (m + 1) (up f i m) := by
  have e1 : Sr.up f i m i = f m := by unfold Sr.up; rw [if_pos rfl]
  have e2 : ∀ k, i < k → k ≤ m → Sr.up f i m k = f (k - 1) := fun k h1 h2 => by unfold Sr.up; rw [if_neg (by omega), if_pos ⟨h1, h2⟩]
  have e3 : ∀ k, k < i → Sr.up f i m k = f k := fun k h1 => by unfold Sr.up; rw [if_neg (by omega), if_neg (by omega)]
  intro p q a1 a2 a3
  by_cases c1 : p < i
  · rw [e3 p c1]
    by_cases c2 : q < i
    · rw [e3 q c2]; exact h _ _ a1 a2 (by omega)
    · by_cases c3 : q = i
      · rw [c3, e1]; exact hl p a1 c1
      · rw [e2 q (by omega) (by omega)]; exact h _ _ a1 (by omega) (by omega)
  · by_cases c2 : p = i
    · rw [c2, e1]
      by_cases c3 : q = i
      · rw [c3, e1]; exact Nat.le_refl _
      · rw [e2 q (by omega) (by omega)]; exact hg _ (by omega) (by omega)
    · rw [e2 p (by omega) (by omega), e2 q (by omega) (by omega)]; exact h _ _ (by omega) (by omega) (by omega)
end Go.Proofs.Ytbhpdlhmkmkbhaa.Sr
