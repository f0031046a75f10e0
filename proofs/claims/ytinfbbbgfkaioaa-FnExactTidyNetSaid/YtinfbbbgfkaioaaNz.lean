/- Tidying, plainly: a light that goes down, rounds over all lights, what stays right. -/
import Derived.Test.YtinfbbbgfkaioaaNy
namespace Go.Proofs.Ytinfbbbgfkaioaa.Nt
set_option linter.unusedVariables false
/-- The lights, one of them with another first slot. -/
def mov (L : Nat → Li) (k : Nat) (t : Int) (i : Nat) : Li := if i = k then { L i with fi := t } else L i
theorem mov_at (L : Nat → Li) (k : Nat) (t : Int) : mov L k t k = { L k with fi := t } := by unfold mov; rw [if_pos rfl]
theorem mov_else {L : Nat → Li} {k : Nat} {t : Int} {i : Nat} (h : i ≠ k) : mov L k t i = L i := by unfold mov; rw [if_neg h]
theorem mov_id (L : Nat → Li) (k : Nat) (t : Int) (i : Nat) : (mov L k t i).id = (L i).id := by unfold mov; split <;> rfl
theorem mov_np (L : Nat → Li) (k : Nat) (t : Int) (i : Nat) : (mov L k t i).np = (L i).np := by unfold mov; split <;> rfl
theorem mov_p (L : Nat → Li) (k : Nat) (t : Int) (i : Nat) : (mov L k t i).p = (L i).p := by unfold mov; split <;> rfl
theorem mov_wd (L : Nat → Li) (k : Nat) (t : Int) (i : Nat) : (mov L k t i).wd = (L i).wd := by unfold mov; split <;> rfl
theorem mov_same (L : Nat → Li) (k : Nat) : mov L k (L k).fi = L := by
  funext i
  by_cases h : i = k
  · subst h; rw [mov_at]
  · rw [mov_else h]
/-- Two lights of a right list do not meet. -/
theorem AllOk.off {nodes slots : Int} {nf : Nat} {F : Nat → Fb} {n : Nat} {L : Nat → Li} (h : AllOk nodes slots nf F n L) {i j : Nat} (hi : i < n) (hj : j < n) (hne : i ≠ j) {f s : Int} (h1 : hasS (L i) f s = true) : hasS (L j) f s = false := by
  cases h2 : hasS (L j) f s with
  | false => rfl
  | true =>
    have a := h.bk hi h1
    have b := h.bk hj h2
    exact absurd (h.id_one hi hj (a.symm.trans b)) hne
theorem low_open {R : Nat → Nat → Int} {p : Nat → Int} {np : Nat} {id : Int} : ∀ {t : Nat} {u : Nat}, lowR R p np id t ≤ u → u < t → opn R p np u 1 id = true
  | 0, u, _, h => absurd h (Nat.not_lt_zero _)
  | t + 1, u, h1, h2 => by
    cases ho : opn R p np t 1 id with
    | false => rw [lowR_stay ho] at h1; omega
    | true =>
      rw [lowR_down ho] at h1
      by_cases e : u = t
      · rw [e]; exact ho
      · exact low_open h1 (by omega)
/-- A right list stays right where a light goes down over open slots. -/
theorem AllOk.mov {nodes slots : Int} {nf : Nat} {F : Nat → Fb} {n : Nat} {L : Nat → Li} (h : AllOk nodes slots nf F n L) {k : Nat} (hk : k < n) :
    AllOk nodes slots nf F n (Nt.mov L k (lowR (fun f s => Nt.bk L n f s) (L k).p (L k).np (L k).id (L k).fi.toNat : Nat)) := by
  have o := h.ok k hk
  have f0 := o.f0
  have w1 := o.w1
  have tp := o.top
  obtain ⟨t, ht⟩ : ∃ t, t = lowR (fun f s => Nt.bk L n f s) (L k).p (L k).np (L k).id (L k).fi.toNat := ⟨_, rfl⟩
  have hle : t ≤ (L k).fi.toNat := by rw [ht]; exact lowR_le _ _ _ _ _
  rw [← ht]
  have key : ∀ j, j < n → j ≠ k → ∀ f s, hasS (Nt.mov L k (t : Int) k) f s = true → hasS (L j) f s = false := fun j hj hne f s hs => by
    rw [mov_at] at hs
    obtain ⟨⟨q, hq, e⟩, s1, s2⟩ := hasS_iff.1 hs
    replace s1 : (t : Int) ≤ s := s1
    replace s2 : s < t + (L k).wd := s2
    replace e : (L k).p q = f := e
    replace hq : q < (L k).np := hq
    by_cases g : (L k).fi ≤ s
    · exact h.off hk hj (fun a => hne a.symm) (hasS_iff.2 ⟨⟨q, hq, e⟩, g, by omega⟩)
    · have ho := low_open (R := fun f s => Nt.bk L n f s) (p := (L k).p) (np := (L k).np) (id := (L k).id) (t := (L k).fi.toNat) (u := s.toNat) (by rw [← ht]; omega) (by omega)
      cases h2 : hasS (L j) f s with
      | false => rfl
      | true =>
        have b := h.bk hj h2
        have : opn (fun f s => Nt.bk L n f s) (L k).p (L k).np s.toNat 1 (L k).id = false := by
          refine opn_no.2 ⟨q, hq, s.toNat, Nat.le_refl _, by omega, ?_⟩
          show Nt.bk L n (((L k).p q).toNat : Int) (s.toNat : Int) ≠ 0 ∧ Nt.bk L n (((L k).p q).toNat : Int) (s.toNat : Int) ≠ (L k).id
          rw [Int.toNat_of_nonneg (o.fib hq).1, Int.toNat_of_nonneg (by omega), e, b]
          exact ⟨by have := (h.ok j hj).id1; omega, fun a => hne (h.id_one hj hk a)⟩
        rw [ho] at this
        cases this
  have ok' : ∀ i, i < n → LOk nodes slots nf F (Nt.mov L k (t : Int) i) := fun i hi => by
    by_cases e : i = k
    · subst e
      rw [mov_at]
      exact ⟨o.id1, o.rf, o.w1, by show (0 : Int) ≤ t; omega, by show (t : Int) + (L i).wd ≤ slots; omega⟩
    · rw [mov_else e]; exact h.ok i hi
  refine ⟨ok', fun i hi => by rw [mov_id, mov_id]; exact h.up i hi, fun i hi j hj => ?_⟩
  have hjn : j < n := by omega
  cases hm : meets (Nt.mov L k (t : Int) i) (Nt.mov L k (t : Int) j) with
  | false => rfl
  | true =>
    obtain ⟨f, s, a, b⟩ := (meets_iff (ok' i hi).w1 (ok' j hjn).w1).1 hm
    by_cases e : i = k
    · subst e
      rw [mov_else (show j ≠ i by omega)] at b
      rw [key j hjn (by omega) f s a] at b
      cases b
    · rw [mov_else e] at a
      by_cases e2 : j = k
      · subst e2
        rw [key i hi e f s b] at a
        cases a
      · rw [mov_else e2] at b
        have := h.off hi hjn (by omega) a
        rw [b] at this
        cases this
/-- All first slots together. -/
def fsum (L : Nat → Li) : Nat → Nat
  | 0 => 0
  | n + 1 => fsum L n + (L n).fi.toNat
theorem fsum_mov_out {L : Nat → Li} {k : Nat} {t : Int} : ∀ {n : Nat}, n ≤ k → fsum (mov L k t) n = fsum L n
  | 0, _ => rfl
  | n + 1, h => by
    show fsum (mov L k t) n + (mov L k t n).fi.toNat = fsum L n + (L n).fi.toNat
    rw [fsum_mov_out (by omega), mov_else (by omega)]
theorem fsum_mov {L : Nat → Li} {k t : Nat} : ∀ {n : Nat}, k < n → fsum (mov L k (t : Int)) n + (L k).fi.toNat = fsum L n + t
  | 0, h => absurd h (Nat.not_lt_zero _)
  | n + 1, h => by
    show fsum (mov L k t) n + (mov L k t n).fi.toNat + (L k).fi.toNat = fsum L n + (L n).fi.toNat + t
    by_cases e : k = n
    · subst e
      rw [fsum_mov_out (Nat.le_refl _), mov_at]
      show fsum L k + (t : Int).toNat + _ = _
      omega
    · rw [mov_else (show n ≠ k by omega)]
      have := fsum_mov (L := L) (k := k) (t := t) (n := n) (by omega)
      omega
theorem fsum_le {L : Nat → Li} {b : Nat} : ∀ {n : Nat}, (∀ i, i < n → (L i).fi.toNat ≤ b) → fsum L n ≤ n * b
  | 0, _ => by simp [fsum]
  | n + 1, h => by
    have h1 := fsum_le (L := L) (b := b) (n := n) fun i hi => h i (by omega)
    have h2 := h n (by omega)
    show fsum L n + (L n).fi.toNat ≤ (n + 1) * b
    rw [Nat.succ_mul]
    omega
end Go.Proofs.Ytinfbbbgfkaioaa.Nt
