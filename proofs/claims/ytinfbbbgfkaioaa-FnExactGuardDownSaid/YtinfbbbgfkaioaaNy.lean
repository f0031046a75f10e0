/- Slots that are open for a light, plainly: told by the rows of slots and by the list of lights. -/
import Derived.Test.YtinfbbbgfkaioaaNx
namespace Go.Proofs.Ytinfbbbgfkaioaa.Nt
set_option linter.unusedVariables false
/-- Slot s of row f is another's. -/
def bad (R : Nat → Nat → Int) (id : Int) (f s : Nat) : Bool := R f s != 0 && R f s != id
theorem bad_iff {R : Nat → Nat → Int} {id : Int} {f s : Nat} : bad R id f s = true ↔ R f s ≠ 0 ∧ R f s ≠ id := by
  unfold bad; simp
/-- Whether m slots from a on are open on the whole path. -/
def opn (R : Nat → Nat → Int) (p : Nat → Int) (np a m : Nat) (id : Int) : Bool := !any (fun k => any (fun j => bad R id (p k).toNat (a + j)) m) np
theorem opn_no {R : Nat → Nat → Int} {p : Nat → Int} {np a m : Nat} {id : Int} : opn R p np a m id = false ↔ ∃ k, k < np ∧ ∃ s, a ≤ s ∧ s < a + m ∧ R (p k).toNat s ≠ 0 ∧ R (p k).toNat s ≠ id := by
  unfold opn
  rw [Bool.not_eq_false', any_iff]
  constructor
  · rintro ⟨k, hk, h⟩
    obtain ⟨j, hj, e⟩ := any_iff.1 h
    exact ⟨k, hk, a + j, by omega, by omega, bad_iff.1 e⟩
  · rintro ⟨k, hk, s, h1, h2, h3⟩
    refine ⟨k, hk, any_iff.2 ⟨s - a, by omega, ?_⟩⟩
    rw [show a + (s - a) = s by omega]
    exact bad_iff.2 h3
/-- How far down a light can go from t, a slot at a time. -/
def lowR (R : Nat → Nat → Int) (p : Nat → Int) (np : Nat) (id : Int) : Nat → Nat
  | 0 => 0
  | t + 1 => if opn R p np t 1 id = true then lowR R p np id t else t + 1
theorem lowR_le (R : Nat → Nat → Int) (p : Nat → Int) (np : Nat) (id : Int) : ∀ t, lowR R p np id t ≤ t
  | 0 => Nat.le_refl _
  | t + 1 => by
    have := lowR_le R p np id t
    show (if opn R p np t 1 id = true then lowR R p np id t else t + 1) ≤ t + 1
    split <;> omega
theorem lowR_down {R : Nat → Nat → Int} {p : Nat → Int} {np : Nat} {id : Int} {t : Nat} (h : opn R p np t 1 id = true) : lowR R p np id (t + 1) = lowR R p np id t := by
  show (if opn R p np t 1 id = true then lowR R p np id t else t + 1) = _
  rw [if_pos h]
theorem lowR_stay {R : Nat → Nat → Int} {p : Nat → Int} {np : Nat} {id : Int} {t : Nat} (h : opn R p np t 1 id = false) : lowR R p np id (t + 1) = t + 1 := by
  show (if opn R p np t 1 id = true then lowR R p np id t else t + 1) = _
  rw [if_neg (by rw [h]; decide)]
/-- Whether another light of the list has a slot from low on, below high, on the path of x. -/
def away (x o : Li) (low high : Int) : Bool := (o.id == x.id) || decide (o.fi + o.wd ≤ low) || decide (high ≤ o.fi)
def blocked (L : Nat → Li) (n : Nat) (x : Li) (low high : Int) : Bool := any (fun i => !away x (L i) low high && share x (L i)) n
theorem share_iff {x y : Li} : share x y = true ↔ ∃ k, k < x.np ∧ ∃ j, j < y.np ∧ y.p j = x.p k := by
  unfold share
  rw [any_iff]
  constructor
  · rintro ⟨k, hk, h⟩
    obtain ⟨j, hj, e⟩ := has_iff.1 h
    exact ⟨k, hk, j, hj, e⟩
  · rintro ⟨k, hk, j, hj, e⟩
    exact ⟨k, hk, has_iff.2 ⟨j, hj, e⟩⟩
theorem away_no {x o : Li} {low high : Int} : away x o low high = false ↔ o.id ≠ x.id ∧ low < o.fi + o.wd ∧ o.fi < high := by
  unfold away
  simp only [Bool.or_eq_false_iff, beq_eq_false_iff_ne, decide_eq_false_iff_not, Int.not_le]
  constructor
  · rintro ⟨⟨a, b⟩, c⟩; exact ⟨a, b, c⟩
  · rintro ⟨a, b, c⟩; exact ⟨⟨a, b⟩, c⟩
theorem blocked_iff {nodes slots : Int} {nf : Nat} {F : Nat → Fb} {n : Nat} {L : Nat → Li} (h : AllOk nodes slots nf F n L) {x : Li} {low high : Int} (hlt : low < high) :
    blocked L n x low high = true ↔ ∃ k, k < x.np ∧ ∃ s, low ≤ s ∧ s < high ∧ bk L n (x.p k) s ≠ 0 ∧ bk L n (x.p k) s ≠ x.id := by
  unfold blocked
  rw [any_iff]
  constructor
  · rintro ⟨i, hi, e⟩
    rw [Bool.and_eq_true, Bool.not_eq_true'] at e
    obtain ⟨e1, e2⟩ := e
    obtain ⟨a1, a2, a3⟩ := away_no.1 e1
    obtain ⟨k, hk, j, hj, e3⟩ := share_iff.1 e2
    have o := h.ok i hi
    have o1 := o.w1
    by_cases g : low ≤ (L i).fi
    · have hs : hasS (L i) (x.p k) (L i).fi = true := hasS_iff.2 ⟨⟨j, hj, e3⟩, by omega, by omega⟩
      have hb := h.bk hi hs
      have := o.id1
      exact ⟨k, hk, (L i).fi, g, a3, by rw [hb]; omega, by rw [hb]; exact a1⟩
    · have hs : hasS (L i) (x.p k) low = true := hasS_iff.2 ⟨⟨j, hj, e3⟩, by omega, by omega⟩
      have hb := h.bk hi hs
      have := o.id1
      exact ⟨k, hk, low, by omega, hlt, by rw [hb]; omega, by rw [hb]; exact a1⟩
  · rintro ⟨k, hk, s, h1, h2, h3, h4⟩
    obtain ⟨i, hi, hs, hb⟩ := bk_some h3
    rw [hb] at h4
    obtain ⟨⟨j, hj, e⟩, s1, s2⟩ := hasS_iff.1 hs
    refine ⟨i, hi, ?_⟩
    rw [Bool.and_eq_true, Bool.not_eq_true']
    exact ⟨away_no.2 ⟨h4, by omega, by omega⟩, share_iff.2 ⟨k, hk, j, hj, e⟩⟩
theorem blocked_opn {nodes slots : Int} {nf : Nat} {F : Nat → Fb} {n : Nat} {L : Nat → Li} (h : AllOk nodes slots nf F n L) {x : Li} (hp : ∀ k, k < x.np → 0 ≤ x.p k) {a m : Nat} (hm : 0 < m) :
    opn (fun f s => bk L n f s) x.p x.np a m x.id = !blocked L n x a ((a + m : Nat) : Int) := by
  have hh : (a : Int) < ((a + m : Nat) : Int) := by omega
  cases hb : blocked L n x a ((a + m : Nat) : Int) with
  | true =>
    obtain ⟨k, hk, s, h1, h2, h3, h4⟩ := (blocked_iff h hh).1 hb
    refine opn_no.2 ⟨k, hk, s.toNat, by omega, by omega, ?_⟩
    show bk L n ((x.p k).toNat : Int) (s.toNat : Int) ≠ 0 ∧ bk L n ((x.p k).toNat : Int) (s.toNat : Int) ≠ x.id
    rw [Int.toNat_of_nonneg (hp k hk), Int.toNat_of_nonneg (by omega)]
    exact ⟨h3, h4⟩
  | false =>
    cases ho : opn (fun f s => bk L n f s) x.p x.np a m x.id with
    | true => rfl
    | false =>
      obtain ⟨k, hk, s, h1, h2, h3, h4⟩ := opn_no.1 ho
      rw [Int.toNat_of_nonneg (hp k hk)] at h3 h4
      rw [(blocked_iff h hh).2 ⟨k, hk, s, by omega, by omega, h3, h4⟩] at hb
      cases hb
/-- How far down a light can go from t, told by the list. -/
def lowS (L : Nat → Li) (n : Nat) (x : Li) : Nat → Nat
  | 0 => 0
  | t + 1 => if blocked L n x t (x.fi + x.wd) = true then t + 1 else lowS L n x t
theorem lowS_le (L : Nat → Li) (n : Nat) (x : Li) : ∀ t, lowS L n x t ≤ t
  | 0 => Nat.le_refl _
  | t + 1 => by
    have := lowS_le L n x t
    show (if blocked L n x t (x.fi + x.wd) = true then t + 1 else lowS L n x t) ≤ t + 1
    split <;> omega
theorem lowS_stay {L : Nat → Li} {n : Nat} {x : Li} {t : Nat} (h : blocked L n x t (x.fi + x.wd) = true) : lowS L n x (t + 1) = t + 1 := by
  show (if blocked L n x t (x.fi + x.wd) = true then t + 1 else lowS L n x t) = _
  rw [if_pos h]
theorem lowS_down {L : Nat → Li} {n : Nat} {x : Li} {t : Nat} (h : blocked L n x t (x.fi + x.wd) = false) : lowS L n x (t + 1) = lowS L n x t := by
  show (if blocked L n x t (x.fi + x.wd) = true then t + 1 else lowS L n x t) = _
  rw [if_neg (by rw [h]; decide)]
/-- A light's own slots are no other's. -/
theorem own_open {nodes slots : Int} {nf : Nat} {F : Nat → Fb} {n : Nat} {L : Nat → Li} (h : AllOk nodes slots nf F n L) {i : Nat} (hi : i < n) {k : Nat} (hk : k < (L i).np) {s : Int} (h1 : (L i).fi ≤ s) (h2 : s < (L i).fi + (L i).wd) : bk L n ((L i).p k) s = (L i).id :=
  h.bk hi (hasS_iff.2 ⟨⟨k, hk, rfl⟩, h1, h2⟩)
theorem low_from {nodes slots : Int} {nf : Nat} {F : Nat → Fb} {n : Nat} {L : Nat → Li} (h : AllOk nodes slots nf F n L) {x : Li} (hw : 1 ≤ x.wd) (hp : ∀ k, k < x.np → 0 ≤ x.p k) : ∀ (t : Nat), (t : Int) ≤ x.fi →
    (∀ k, k < x.np → ∀ s : Int, (t : Int) ≤ s → s < x.fi + x.wd → bk L n (x.p k) s = 0 ∨ bk L n (x.p k) s = x.id) → lowS L n x t = lowR (fun f s => bk L n f s) x.p x.np x.id t
  | 0, _, _ => rfl
  | t + 1, ht, hop => by
    have hlt : (t : Int) < x.fi + x.wd := by omega
    have e := blocked_opn h hp (a := t) (m := 1) (by omega)
    have key : blocked L n x t (x.fi + x.wd) = blocked L n x t ((t + 1 : Nat) : Int) := by
      apply Bool.eq_iff_iff.2
      rw [blocked_iff h hlt, blocked_iff h (by omega)]
      constructor
      · rintro ⟨k, hk, s, h1, h2, h3, h4⟩
        by_cases g : s = t
        · exact ⟨k, hk, s, h1, by omega, h3, h4⟩
        · rcases hop k hk s (by omega) h2 with a | a
          · exact absurd a h3
          · exact absurd a h4
      · rintro ⟨k, hk, s, h1, h2, h3, h4⟩
        exact ⟨k, hk, s, h1, by omega, h3, h4⟩
    cases hb : blocked L n x t (x.fi + x.wd) with
    | true =>
      rw [lowS_stay hb, lowR_stay (by rw [e, ← key, hb]; rfl)]
    | false =>
      rw [lowS_down hb, lowR_down (by rw [e, ← key, hb]; rfl)]
      refine low_from h hw hp t (by omega) fun k hk s h1 h2 => ?_
      by_cases g : s = t
      · by_cases a : bk L n (x.p k) s = 0
        · exact Or.inl a
        · by_cases b : bk L n (x.p k) s = x.id
          · exact Or.inr b
          · have := (blocked_iff h hlt).2 ⟨k, hk, s, h1, h2, a, b⟩
            rw [hb] at this
            cases this
      · exact hop k hk s (by omega) h2
theorem low_same {nodes slots : Int} {nf : Nat} {F : Nat → Fb} {n : Nat} {L : Nat → Li} (h : AllOk nodes slots nf F n L) {i : Nat} (hi : i < n) : lowS L n (L i) (L i).fi.toNat = lowR (fun f s => bk L n f s) (L i).p (L i).np (L i).id (L i).fi.toNat := by
  have o := h.ok i hi
  have f0 := o.f0
  refine low_from h o.w1 (fun k hk => (o.fib hk).1) _ (by omega) fun k hk s h1 h2 => Or.inr (own_open h hi hk (by omega) h2)
end Go.Proofs.Ytinfbbbgfkaioaa.Nt
