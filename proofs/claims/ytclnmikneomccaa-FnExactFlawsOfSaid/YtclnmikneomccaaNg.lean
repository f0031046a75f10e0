/- Numbers by first appearance, plainly: a list that counts its values from 0 on as they come first is told by which of its places are alike. -/
namespace Go.Proofs.Ytclnmikneomccaa
set_option linter.unusedVariables false
namespace Nw
/-- No value below 0, and ahead of each value stand all lesser ones. -/
def RG (n : Nat) (F : Nat → Int) : Prop := ∀ a, a < n → 0 ≤ F a ∧ ∀ k : Int, 0 ≤ k → k < F a → ∃ b, b < a ∧ F b = k
theorem RG.zero (F : Nat → Int) : RG 0 F := fun a h => absurd h (Nat.not_lt_zero _)
/-- The places alike in the one are alike in the other. -/
def Jo (n : Nat) (F G : Nat → Int) : Prop := ∀ a b, a < n → b < n → (F a = F b ↔ G a = G b)
theorem RG.le {n : Nat} {F G : Nat → Int} (hF : RG n F) (hG : RG n G) (hj : Jo n F G) : ∀ a, a < n → (∀ b, b < a → F b = G b) → F a ≤ G a := by
  intro a ha hb
  by_cases h : F a ≤ G a
  · exact h
  · obtain ⟨b, hb1, hb2⟩ := (hF a ha).2 (G a) ((hG a ha).1) (by omega)
    have e : G b = G a := by rw [← hb b hb1]; exact hb2
    have := (hj b a (by omega) ha).2 e
    omega
theorem RG.uniq {n : Nat} {F G : Nat → Int} (hF : RG n F) (hG : RG n G) (hj : Jo n F G) : ∀ a, a < n → F a = G a := by
  intro a
  induction a using Nat.strongRecOn with
  | ind a ih =>
    intro ha
    have h1 := hF.le hG hj a ha fun b hb => ih b hb (by omega)
    have h2 := hG.le hF (fun a b h1 h2 => (hj a b h1 h2).symm) a ha fun b hb => (ih b hb (by omega)).symm
    omega
/-- Each value lies below the count of places. -/
theorem RG.lt {n : Nat} {F : Nat → Int} (hF : RG n F) : ∀ a, a < n → F a ≤ a := by
  intro a
  induction a using Nat.strongRecOn with
  | ind a ih =>
    intro ha
    by_cases h : F a ≤ a
    · exact h
    · obtain ⟨b, hb1, hb2⟩ := (hF a ha).2 a (by omega) (by omega)
      have := ih b hb1 (by omega)
      omega
/-- Places that everything which goes by J takes for alike. -/
def Cn (J : Nat → Nat → Prop) (n i j : Nat) : Prop := ∀ (β : Type) (g : Nat → β), (∀ a b, a < n → b < n → J a b → g a = g b) → g i = g j
theorem Cn.refl (J : Nat → Nat → Prop) (n i : Nat) : Cn J n i i := fun _ _ _ => rfl
theorem Cn.symm {J : Nat → Nat → Prop} {n i j : Nat} (h : Cn J n i j) : Cn J n j i := fun β g hg => (h β g hg).symm
theorem Cn.trans {J : Nat → Nat → Prop} {n i j k : Nat} (h : Cn J n i j) (h2 : Cn J n j k) : Cn J n i k := fun β g hg => (h β g hg).trans (h2 β g hg)
theorem Cn.one {J : Nat → Nat → Prop} {n i j : Nat} (hi : i < n) (hj : j < n) (h : J i j) : Cn J n i j := fun β g hg => hg i j hi hj h
/-- The numbers of the nets. -/
structure Nets (J : Nat → Nat → Prop) (n : Nat) (F : Nat → Int) : Prop where
  rg : RG n F
  al : ∀ i j, i < n → j < n → (F i = F j ↔ Cn J n i j)
theorem Nets.uniq {J : Nat → Nat → Prop} {n : Nat} {F G : Nat → Int} (h : Nets J n F) (k : Nets J n G) : ∀ a, a < n → F a = G a :=
  h.rg.uniq k.rg fun a b ha hb => (h.al a b ha hb).trans (k.al a b ha hb).symm
theorem Nets.congr {J K : Nat → Nat → Prop} {n : Nat} {F : Nat → Int} (h : Nets J n F) (e : ∀ a b, a < n → b < n → (J a b ↔ K a b)) : Nets K n F :=
  ⟨h.rg, fun i j hi hj => (h.al i j hi hj).trans ⟨fun c β g hg => c β g fun a b ha hb hab => hg a b ha hb ((e a b ha hb).1 hab), fun c β g hg => c β g fun a b ha hb hab => hg a b ha hb ((e a b ha hb).2 hab)⟩⟩
/-- The walk from net to net: all ahead of i are numbered, all that are numbered lie below 'next', what lies in 'todo' is still to be looked at. -/
structure Wk (J : Nat → Nat → Prop) (n i : Nat) (next : Int) (F : Nat → Int) (todo : List Nat) : Prop where
  below : ∀ a, a < n → F a < next
  least : ∀ a, a < n → -1 ≤ F a
  done : ∀ a, a < i → a < n → 0 ≤ F a
  root : ∀ k : Int, 0 ≤ k → k < next → ∃ b, b < i ∧ b < n ∧ F b = k
  rg : ∀ a, a < n → ∀ k : Int, 0 ≤ k → k < F a → ∃ b, b < a ∧ F b = k
  sound : ∀ a b, a < n → b < n → 0 ≤ F a → F a = F b → Cn J n a b
  closed : ∀ a b, a < n → b < n → 0 ≤ F a → a ∉ todo → J a b → F b = F a
  cur : ∀ a, a ∈ todo → a < n ∧ F a = next - 1
  nn : 0 ≤ next
theorem Wk.start (J : Nat → Nat → Prop) (n : Nat) : Wk J n 0 0 (fun _ => -1) [] :=
  ⟨fun a _ => by omega, fun _ _ => by omega, fun a h => absurd h (Nat.not_lt_zero _), fun k h1 h2 => by omega, fun a _ k h1 h2 => by omega, fun a b _ _ h => by omega, fun a b _ _ h => by omega, fun a h => absurd h (by simp), Int.le_refl _⟩
theorem Wk.skip {J : Nat → Nat → Prop} {n i : Nat} {next : Int} {F : Nat → Int} (h : Wk J n i next F []) (hi : 0 ≤ F i) : Wk J n (i + 1) next F [] :=
  { h with done := fun a h1 h2 => by
             by_cases e : a = i
             · subst e; exact hi
             · exact h.done a (by omega) h2
           root := fun k h1 h2 => by obtain ⟨b, hb, hb2⟩ := h.root k h1 h2; exact ⟨b, by omega, hb2⟩ }
/-- A new net begins at i. -/
theorem Wk.new {J : Nat → Nat → Prop} {n i : Nat} {next : Int} {F : Nat → Int} (h : Wk J n i next F []) (hin : i < n) (hi : F i < 0) : Wk J n (i + 1) (next + 1) (fun a => if a = i then next else F a) [i] := by
  have hnn := h.nn
  refine ⟨fun a ha => ?_, fun a ha => ?_, fun a h1 h2 => ?_, fun k h1 h2 => ?_, fun a ha k h1 h2 => ?_, fun a b ha hb h1 h2 => ?_, fun a b ha hb h1 h2 h3 => ?_, fun a ha => ?_, by omega⟩
  · have := h.below a ha
    split <;> omega
  · have := h.least a ha
    split <;> omega
  · split
    · omega
    · exact h.done a (by omega) h2
  · by_cases e : k = next
    · exact ⟨i, by omega, hin, by simp [e]⟩
    · obtain ⟨b, hb, hb2, hb3⟩ := h.root k h1 (by omega)
      have : b ≠ i := by omega
      exact ⟨b, by omega, hb2, by simp [this, hb3]⟩
  · by_cases e : a = i
    · subst e
      simp only [if_true] at h2
      obtain ⟨b, hb, hb2, hb3⟩ := h.root k h1 h2
      have : b ≠ a := by omega
      exact ⟨b, hb, by simp [this, hb3]⟩
    · simp only [e, if_false] at h2
      obtain ⟨b, hb, hb2⟩ := h.rg a ha k h1 h2
      have : b ≠ i := by rintro rfl; omega
      exact ⟨b, hb, by simp [this, hb2]⟩
  · by_cases e : a = i
    · subst e
      by_cases e2 : b = a
      · subst e2; exact Cn.refl _ _ _
      · simp only [e2, if_true, if_false] at h2
        have := h.below b hb
        omega
    · by_cases e2 : b = i
      · subst e2
        simp only [e, if_true, if_false] at h2
        have := h.below a ha
        omega
      · simp only [e, e2, if_false] at h1 h2
        exact h.sound a b ha hb h1 h2
  · have e : a ≠ i := by simpa using h2
    simp only [e, if_false] at h1
    have e3 := h.closed a b ha hb h1 (by simp) h3
    have : b ≠ i := by rintro rfl; omega
    simp [e, this, e3]
  · have e : a = i := by simpa using ha
    subst e
    exact ⟨hin, by simp⟩
/-- One place is taken out of 'todo', and its neighbours are looked at up to j. -/
structure Lk (J : Nat → Nat → Prop) (n i : Nat) (next : Int) (F : Nat → Int) (todo : List Nat) (k j : Nat) : Prop where
  kn : k < n
  wk : Wk J n i next F (k :: todo)
  seen : ∀ b, b < j → b < n → J k b → F b = F k
theorem Lk.start {J : Nat → Nat → Prop} {n i : Nat} {next : Int} {F : Nat → Int} {todo : List Nat} {k : Nat} (h : Wk J n i next F (todo ++ [k])) : Lk J n i next F todo k 0 :=
  ⟨(h.cur k (by simp)).1, { h with closed := fun a b ha hb h1 h2 => h.closed a b ha hb h1 (by simpa [or_comm] using h2), cur := fun a ha => h.cur a (by simpa [or_comm] using ha) }, fun b h => absurd h (Nat.not_lt_zero _)⟩
theorem Lk.stop {J : Nat → Nat → Prop} {n i : Nat} {next : Int} {F : Nat → Int} {todo : List Nat} {k : Nat} (h : Lk J n i next F todo k n) : Wk J n i next F todo :=
  { h.wk with closed := fun a b ha hb h1 h2 h3 => by
                by_cases e : a = k
                · subst e; exact h.seen b hb hb h3
                · exact h.wk.closed a b ha hb h1 (by simp [e, h2]) h3
              cur := fun a ha => h.wk.cur a (by simp [ha]) }
theorem Lk.pass {J : Nat → Nat → Prop} {n i : Nat} {next : Int} {F : Nat → Int} {todo : List Nat} {k j : Nat} (h : Lk J n i next F todo k j) (hsy : ∀ a b, J a b → J b a) (hj : j < n) (hp : 0 ≤ F j ∨ ¬ J k j) : Lk J n i next F todo k (j + 1) :=
  { h with seen := fun b hb hbn hJ => by
             by_cases e : b = j
             · subst e
               rcases hp with hp | hp
               · by_cases ht : b ∈ k :: todo
                 · rw [(h.wk.cur b ht).2, (h.wk.cur k (by simp)).2]
                 · exact (h.wk.closed b k hbn h.kn hp ht (hsy _ _ hJ)).symm
               · exact absurd hJ hp
             · exact h.seen b (by omega) hbn hJ }
theorem Lk.take {J : Nat → Nat → Prop} {n i : Nat} {next : Int} {F : Nat → Int} {todo : List Nat} {k j : Nat} (h : Lk J n i next F todo k j) (hj : j < n) (hi : 0 < i) (hF : F j < 0) (hJ : J k j) : Lk J n i next (fun a => if a = j then next - 1 else F a) (todo ++ [j]) k (j + 1) := by
  have hk := h.wk.cur k (by simp)
  have hkj : k ≠ j := by
    rintro rfl
    have := h.wk.root
    have h0 : ¬ (0 ≤ next - 1) := by omega
    have hl := h.wk.least k hj
    have : next = 0 := by have := h.wk.nn; omega
    obtain ⟨rfl⟩ | hh := Nat.eq_zero_or_pos n
    · omega
    · have h1 := h.wk.done 0 hi hh
      have h2 := h.wk.below 0 hh
      omega
  have hn1 : 0 ≤ next - 1 := by
    obtain ⟨rfl⟩ | hh := Nat.eq_zero_or_pos n
    · omega
    · have h1 := h.wk.done 0 hi hh
      have h2 := h.wk.below 0 hh
      omega
  have hij : i ≤ j := by
    apply Nat.le_of_not_lt
    intro hc
    have := h.wk.done j hc hj
    omega
  refine ⟨hk.1, ⟨fun a ha => ?_, fun a ha => ?_, fun a h1 h2 => ?_, fun m h1 h2 => ?_, fun a ha m h1 h2 => ?_, fun a b ha hb h1 h2 => ?_, fun a b ha hb h1 h2 h3 => ?_, fun a ha => ?_, h.wk.nn⟩, fun b hb hbn hJb => ?_⟩
  · have := h.wk.below a ha
    split <;> omega
  · have := h.wk.least a ha
    split <;> omega
  · split
    · omega
    · exact h.wk.done a (by omega) h2
  · obtain ⟨b, hb, hb2, hb3⟩ := h.wk.root m h1 h2
    have : b ≠ j := by omega
    exact ⟨b, hb, hb2, by simp [this, hb3]⟩
  · by_cases e : a = j
    · subst e
      simp only [if_true] at h2
      obtain ⟨b, hb, hb2, hb3⟩ := h.wk.root m h1 (by omega)
      have : b ≠ a := by omega
      exact ⟨b, by omega, by simp [this, hb3]⟩
    · simp only [e, if_false] at h2
      obtain ⟨b, hb, hb2⟩ := h.wk.rg a ha m h1 h2
      have : b ≠ j := by rintro rfl; omega
      exact ⟨b, hb, by simp [this, hb2]⟩
  · have key : ∀ x, x < n → F x = next - 1 → Cn J n x j := fun x hx e => (h.wk.sound x k hx h.kn (by omega) (by rw [e, hk.2])).trans (Cn.one h.kn hj hJ)
    by_cases e : a = j
    · subst e
      by_cases e2 : b = a
      · subst e2; exact Cn.refl _ _ _
      · simp only [e2, if_true, if_false] at h2
        exact (key b hb h2.symm).symm
    · by_cases e2 : b = j
      · subst e2
        simp only [e, if_true, if_false] at h2
        exact key a ha h2
      · simp only [e, e2, if_false] at h1 h2
        exact h.wk.sound a b ha hb h1 h2
  · have e : a ≠ j := by rintro rfl; simp at h2
    simp only [e, if_false] at h1
    have e3 := h.wk.closed a b ha hb h1 (by simp at h2 ⊢; exact ⟨h2.1, h2.2.1⟩) h3
    have : b ≠ j := by rintro rfl; omega
    simp [e, this, e3]
  · by_cases e : a = j
    · subst e
      exact ⟨hj, by simp⟩
    · have : a ∈ k :: todo := by simp at ha ⊢; rcases ha with h | h | h; exact Or.inl h; exact Or.inr h; exact absurd h e
      have := h.wk.cur a this
      exact ⟨this.1, by simp [e, this.2]⟩
  · simp only [hkj, if_false]
    by_cases e : b = j
    · subst e; simp [hk.2]
    · simp only [e, if_false]
      exact h.seen b (by omega) hbn hJb
theorem Wk.nets {J : Nat → Nat → Prop} {n : Nat} {next : Int} {F : Nat → Int} (h : Wk J n n next F []) : Nets J n F := by
  have dn : ∀ a, a < n → 0 ≤ F a := fun a ha => h.done a ha ha
  refine ⟨fun a ha => ⟨dn a ha, h.rg a ha⟩, fun i j hi hj => ⟨h.sound i j hi hj (dn i hi), fun c => ?_⟩⟩
  exact c Int F fun a b ha hb hab => (h.closed a b ha hb (dn a ha) (by simp) hab).symm
/-- How many places ahead of n have no number yet. -/
def cu (F : Nat → Int) : Nat → Nat
  | 0 => 0
  | n + 1 => cu F n + if F n < 0 then 1 else 0
theorem cu_le (F : Nat → Int) : ∀ n, cu F n ≤ n
  | 0 => Nat.le_refl _
  | n + 1 => by have := cu_le F n; unfold cu; split <;> omega
theorem cu_same {F G : Nat → Int} : ∀ n, (∀ a, a < n → (F a < 0 ↔ G a < 0)) → cu F n = cu G n
  | 0, _ => rfl
  | n + 1, h => by
    unfold cu
    rw [cu_same n fun a ha => h a (by omega)]
    have := h n (by omega)
    by_cases e : F n < 0
    · simp [e, this.1 e]
    · have : ¬ G n < 0 := fun c => e (this.2 c)
      simp [e, this]
theorem cu_take {F : Nat → Int} {x : Int} (hx : 0 ≤ x) : ∀ {n j}, j < n → F j < 0 → cu (fun a => if a = j then x else F a) n + 1 = cu F n
  | 0, _, h, _ => absurd h (Nat.not_lt_zero _)
  | n + 1, j, h, hF => by
    by_cases e : j = n
    · subst e
      have := cu_same (F := fun a => if a = j then x else F a) (G := F) j fun a ha => by have : a ≠ j := by omega
                                                                                         simp [this]
      simp only [cu, this, if_true, hF]
      have : ¬ x < 0 := by omega
      simp [this]
    · have := cu_take (F := F) hx (n := n) (j := j) (by omega) hF
      have e2 : n ≠ j := fun c => e c.symm
      simp only [cu, e2, if_false]
      omega
/-- Things one above the other: each thing's chief, and how far it is away. -/
structure Fo {R : Type} (ab : R → Option R) (ch : R → R) (d : R → Nat) : Prop where
  top : ∀ x, ab x = none → ch x = x
  up : ∀ x y, ab x = some y → ch y = ch x ∧ d y < d x
theorem Fo.start (R : Type) : Fo (R := R) (fun _ => none) id (fun _ => 0) := ⟨fun _ _ => rfl, fun x y h => by simp at h⟩
open Classical in
theorem Fo.set {R : Type} {ab : R → Option R} {ch : R → R} {d : R → Nat} (h : Fo ab ch d) {p q : R} (hp : ab p = none) (hq : ab q = none) (hne : p ≠ q) :
    Fo (fun x => if q = x then some p else ab x) (fun x => if ch x = q then p else ch x) (fun x => if ch x = q then d x + d p + 1 else d x) := by
  have cp := h.top p hp
  have cq := h.top q hq
  refine ⟨fun x hx => ?_, fun x y hx => ?_⟩
  · by_cases e : q = x
    · simp [e] at hx
    · simp only [e, if_false] at hx
      have := h.top x hx
      have e2 : ¬ x = q := fun c => e c.symm
      simp [this, e2]
  · by_cases e : q = x
    · subst e
      simp only [if_true, Option.some.injEq] at hx
      subst hx
      simp only [cp, cq, if_true, hne, if_false]
      exact ⟨trivial, by omega⟩
    · simp only [e, if_false] at hx
      obtain ⟨h1, h2⟩ := h.up x y hx
      simp only [h1]
      refine ⟨trivial, ?_⟩
      split <;> omega
/-- The union, while pairs (i, b) with b below j are joined. -/
structure Un {R : Type} (l : Nat → R) (J : Nat → Nat → Prop) (n i j : Nat) (ch : R → R) : Prop where
  snd : ∀ (β : Type) (g : Nat → β), (∀ a b, a < n → b < n → J a b → g a = g b) → ∀ a, a < n → ∃ k, k < n ∧ ch (l a) = l k ∧ g a = g k
  all : ∀ a b, a < i → b < a → a < n → J a b → ch (l a) = ch (l b)
  row : ∀ b, b < j → b < i → i < n → J i b → ch (l i) = ch (l b)
theorem Un.start {R : Type} (l : Nat → R) (J : Nat → Nat → Prop) (n : Nat) : Un l J n 0 0 id :=
  ⟨fun β g hg a ha => ⟨a, ha, rfl, rfl⟩, fun a b h => absurd h (Nat.not_lt_zero _), fun b h => absurd h (Nat.not_lt_zero _)⟩
theorem Un.next {R : Type} {l : Nat → R} {J : Nat → Nat → Prop} {n i : Nat} {ch : R → R} (h : Un l J n i i ch) : Un l J n (i + 1) 0 ch :=
  { h with all := fun a b ha hb han hJ => by
             by_cases e : a = i
             · subst e; exact h.row b hb hb han hJ
             · exact h.all a b (by omega) hb han hJ
           row := fun b h => absurd h (Nat.not_lt_zero _) }
theorem Un.pass {R : Type} {l : Nat → R} {J : Nat → Nat → Prop} {n i j : Nat} {ch : R → R} (h : Un l J n i j ch) (hp : J i j → ch (l i) = ch (l j)) : Un l J n i (j + 1) ch :=
  { h with row := fun b hb hbi hin hJ => by
             by_cases e : b = j
             · subst e; exact hp hJ
             · exact h.row b (by omega) hbi hin hJ }
open Classical in
theorem Un.join {R : Type} {l : Nat → R} {J : Nat → Nat → Prop} {n i j : Nat} {ch : R → R} (h : Un l J n i j ch) (hi : i < n) (hj : j < n) (hJ : J i j) (hal : ∀ a b, a < n → b < n → l a = l b → J a b)
    {p q : R} (hp : ch (l j) = p) (hq : ch (l i) = q) : Un l J n i (j + 1) (fun x => if ch x = q then p else ch x) := by
  refine ⟨fun β g hg a ha => ?_, fun a b ha hb han hJ2 => ?_, fun b hb hbi hin hJ2 => ?_⟩
  · obtain ⟨k, hk, e1, e2⟩ := h.snd β g hg a ha
    by_cases e : ch (l a) = q
    · simp only [e, if_true]
      obtain ⟨kj, hkj, j1, j2⟩ := h.snd β g hg j hj
      obtain ⟨ki, hki, i1, i2⟩ := h.snd β g hg i hi
      refine ⟨kj, hkj, by rw [← hp, j1], ?_⟩
      have : l k = l ki := by rw [← e1, e, ← hq, i1]
      have g1 := hg k ki hk hki (hal k ki hk hki this)
      have g2 := hg i j hi hj hJ
      rw [e2, g1, ← i2, g2, j2]
    · simp only [e, if_false]
      exact ⟨k, hk, e1, e2⟩
  · have := h.all a b ha hb han hJ2
    simp only [this]
  · by_cases e : b = j
    · subst e
      simp only [hp, hq, if_true]
      split <;> rfl
    · have := h.row b (by omega) hbi hin hJ2
      simp only [this]
theorem Un.cn {R : Type} {l : Nat → R} {J : Nat → Nat → Prop} {n : Nat} {ch : R → R} (h : Un l J n n 0 ch) (hsy : ∀ a b, J a b → J b a) (hal : ∀ a b, a < n → b < n → l a = l b → J a b) (i j : Nat) (hi : i < n) (hj : j < n) : ch (l i) = ch (l j) ↔ Cn J n i j := by
  refine ⟨fun e β g hg => ?_, fun c => ?_⟩
  · obtain ⟨k, hk, e1, e2⟩ := h.snd β g hg i hi
    obtain ⟨m, hm, f1, f2⟩ := h.snd β g hg j hj
    rw [e2, f2]
    exact hg k m hk hm (hal k m hk hm (by rw [← e1, e, f1]))
  · refine c R (fun a => ch (l a)) fun a b ha hb hJ => ?_
    rcases Nat.lt_trichotomy a b with e | e | e
    · exact (h.all b a hb e hb (hsy a b hJ)).symm
    · subst e; rfl
    · exact h.all a b ha e ha hJ
/-- Things numbered as they come first: what the map holds behind k of them. -/
structure Nu {β : Type} (xs : Nat → β) (k : Nat) (X : Nat → Int) (m : β → Option Int) (next : Int) : Prop where
  rg : RG k X
  jo : ∀ a b, a < k → b < k → (X a = X b ↔ xs a = xs b)
  put : ∀ a, a < k → m (xs a) = some (X a)
  got : ∀ x v, m x = some v → ∃ a, a < k ∧ xs a = x
  below : ∀ a, a < k → X a < next
  all : ∀ v, 0 ≤ v → v < next → ∃ a, a < k ∧ X a = v
  nn : 0 ≤ next ∧ next ≤ k
theorem Nu.start {β : Type} (xs : Nat → β) (X : Nat → Int) : Nu xs 0 X (fun _ => none) 0 :=
  ⟨RG.zero _, fun a b h => absurd h (Nat.not_lt_zero _), fun a h => absurd h (Nat.not_lt_zero _), fun x v h => by simp at h, fun a h => absurd h (Nat.not_lt_zero _), fun v h1 h2 => by omega, by omega⟩
theorem Nu.known {β : Type} {xs : Nat → β} {k : Nat} {X : Nat → Int} {m : β → Option Int} {next : Int} (h : Nu xs k X m next) {v : Int} (hm : m (xs k) = some v) : Nu xs (k + 1) (fun a => if a = k then v else X a) m next := by
  obtain ⟨a0, h0, e0⟩ := h.got _ _ hm
  have v0 : X a0 = v := by have := h.put a0 h0; rw [e0, hm] at this; simpa using this.symm
  have hnn := h.nn
  refine ⟨fun a ha => ?_, fun a b ha hb => ?_, fun a ha => ?_, fun x u hx => ?_, fun a ha => ?_, fun u h1 h2 => ?_, by omega⟩
  · by_cases e : a = k
    · subst e
      simp only [if_true]
      rw [← v0]
      refine ⟨(h.rg a0 h0).1, fun u h1 h2 => ?_⟩
      obtain ⟨b, hb, hb2⟩ := (h.rg a0 h0).2 u h1 h2
      have : b ≠ a := by omega
      exact ⟨b, by omega, by simp [this, hb2]⟩
    · simp only [e, if_false]
      refine ⟨(h.rg a (by omega)).1, fun u h1 h2 => ?_⟩
      obtain ⟨b, hb, hb2⟩ := (h.rg a (by omega)).2 u h1 h2
      have : b ≠ k := by omega
      exact ⟨b, hb, by simp [this, hb2]⟩
  · by_cases e : a = k
    · by_cases e2 : b = k
      · subst e e2; simp
      · subst e
        simp only [if_true, e2, if_false]
        rw [← v0, ← e0]
        exact h.jo a0 b h0 (by omega)
    · by_cases e2 : b = k
      · subst e2
        simp only [if_true, e, if_false]
        rw [← v0, ← e0]
        exact h.jo a a0 (by omega) h0
      · simp only [e, e2, if_false]
        exact h.jo a b (by omega) (by omega)
  · by_cases e : a = k
    · subst e; simp [hm]
    · simp only [e, if_false]; exact h.put a (by omega)
  · obtain ⟨a, ha, ea⟩ := h.got x u hx
    exact ⟨a, by omega, ea⟩
  · by_cases e : a = k
    · simp only [e, if_true]; rw [← v0]; exact h.below a0 h0
    · simp only [e, if_false]; exact h.below a (by omega)
  · obtain ⟨a, ha, ea⟩ := h.all u h1 h2
    have : a ≠ k := by omega
    exact ⟨a, by omega, by simp [this, ea]⟩
open Classical in
theorem Nu.fresh {β : Type} {xs : Nat → β} {k : Nat} {X : Nat → Int} {m : β → Option Int} {next : Int} (h : Nu xs k X m next) (hm : m (xs k) = none) : Nu xs (k + 1) (fun a => if a = k then next else X a) (fun x => if xs k = x then some next else m x) (next + 1) := by
  have hnew : ∀ a, a < k → xs a ≠ xs k := fun a ha e => by have := h.put a ha; rw [e, hm] at this; simp at this
  have hnn := h.nn
  refine ⟨fun a ha => ?_, fun a b ha hb => ?_, fun a ha => ?_, fun x u hx => ?_, fun a ha => ?_, fun u h1 h2 => ?_, by omega⟩
  · by_cases e : a = k
    · subst e
      simp only [if_true]
      refine ⟨h.nn.1, fun u h1 h2 => ?_⟩
      obtain ⟨b, hb, hb2⟩ := h.all u h1 h2
      have : b ≠ a := by omega
      exact ⟨b, by omega, by simp [this, hb2]⟩
    · simp only [e, if_false]
      refine ⟨(h.rg a (by omega)).1, fun u h1 h2 => ?_⟩
      obtain ⟨b, hb, hb2⟩ := (h.rg a (by omega)).2 u h1 h2
      have : b ≠ k := by omega
      exact ⟨b, hb, by simp [this, hb2]⟩
  · by_cases e : a = k
    · by_cases e2 : b = k
      · subst e e2; simp
      · subst e
        simp only [if_true, e2, if_false]
        have h1 := h.below b (by omega)
        have h2 := hnew b (by omega)
        exact ⟨fun c => by omega, fun c => absurd c.symm h2⟩
    · by_cases e2 : b = k
      · subst e2
        simp only [if_true, e, if_false]
        have h1 := h.below a (by omega)
        have h2 := hnew a (by omega)
        exact ⟨fun c => by omega, fun c => absurd c h2⟩
      · simp only [e, e2, if_false]
        exact h.jo a b (by omega) (by omega)
  · by_cases e : a = k
    · subst e; simp
    · have : ¬ xs k = xs a := fun c => hnew a (by omega) c.symm
      simp only [e, this, if_false]; exact h.put a (by omega)
  · by_cases e : xs k = x
    · exact ⟨k, by omega, e⟩
    · simp only [e, if_false] at hx
      obtain ⟨a, ha, ea⟩ := h.got x u hx
      exact ⟨a, by omega, ea⟩
  · by_cases e : a = k
    · simp only [e, if_true]; omega
    · simp only [e, if_false]; have := h.below a (by omega); omega
  · by_cases e : u = next
    · exact ⟨k, by omega, by simp [e]⟩
    · obtain ⟨a, ha, ea⟩ := h.all u h1 (by omega)
      have : a ≠ k := by omega
      exact ⟨a, by omega, by simp [this, ea]⟩
/-- What is numbered as it comes first, of places joined alike, are the numbers of the nets. -/
theorem nets_of {R : Type} {l : Nat → R} {J : Nat → Nat → Prop} {n : Nat} {X : Nat → Int} (hr : RG n X) {ch : R → R} (hc : ∀ i j, i < n → j < n → (ch (l i) = ch (l j) ↔ Cn J n i j)) (hj : ∀ a b, a < n → b < n → (X a = X b ↔ ch (l a) = ch (l b))) : Nets J n X :=
  ⟨hr, fun i j hi hj' => (hj i j hi hj').trans (hc i j hi hj')⟩
end Nw
end Go.Proofs.Ytclnmikneomccaa
