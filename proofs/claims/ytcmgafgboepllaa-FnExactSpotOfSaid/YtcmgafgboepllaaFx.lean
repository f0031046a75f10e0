/- Books of flux: plainly. -/
import Derived.Test.YtcmgafgboepllaaCx
namespace Go.Proofs.Ytcmgafgboepllaa
open Go.RowKit Fl
set_option linter.unusedVariables false
set_option linter.unusedSimpArgs false
def dcol (G : Nat → Nat → Nat) (S : Nat) (C : Option Nat) (i j : Nat) : Option Nat := colA (atO (cl (G i j)) S C) S C
def fxIn (G : Nat → Nat → Nat) (S : Nat) (C : Option Nat) (i : Nat) : Option Nat := match dcol G S C i 0, dcol G S C i 1 with
  | some x, some y => some (y * S + x)
  | _, _ => none
def fcell (G : Nat → Nat → Nat) (S : Nat) (C : Option Nat) : Nat → Nat → Int
  | 0 => fun _ => 0
  | k + 1 => fun a => if fxIn G S C k = some a then fcell G S C k a + 1 else fcell G S C k a
def flost (G : Nat → Nat → Nat) (S : Nat) (C : Option Nat) : Nat → Int
  | 0 => 0
  | k + 1 => if fxIn G S C k = none then flost G S C k + 1 else flost G S C k
theorem fcell_bd (G : Nat → Nat → Nat) (S : Nat) (C : Option Nat) : ∀ k a, 0 ≤ fcell G S C k a ∧ fcell G S C k a ≤ k
  | 0, a => by simp [fcell]
  | k + 1, a => by
    have := fcell_bd G S C k a
    unfold fcell
    split <;> omega
theorem flost_bd (G : Nat → Nat → Nat) (S : Nat) (C : Option Nat) : ∀ k, 0 ≤ flost G S C k ∧ flost G S C k ≤ k
  | 0 => by simp [flost]
  | k + 1 => by
    have := flost_bd G S C k
    unfold flost
    split <;> omega
theorem fx_in {W : World} {g m S k A : Nat} {G : Nat → Nat → Nat} {C : Option Nat} {z : Int} (h : Seg W g 2 0 m (fun i => .int .i64 (fcell G S C k i))) (hA : fxIn G S C k = some A) (hz : z = fcell G S C k A) (hm : A < m) :
    Seg (W.setCell ⟨g, A, none⟩ (.int .i64 (z + 1))) g 2 0 m (fun i => .int .i64 (fcell G S C (k + 1) i)) := by
  have := h.set A hm (.int .i64 (z + 1))
  rw [Nat.zero_add] at this
  refine this.congr fun j hj => ?_
  show (if j = A then _ else _) = Value.int .i64 (if fxIn G S C k = some j then fcell G S C k j + 1 else fcell G S C k j)
  rw [hA]
  by_cases e : j = A
  · rw [if_pos e, e, if_pos rfl, hz]
  · rw [if_neg e, if_neg (fun c => e (Option.some.inj c).symm)]
theorem fx_out {W : World} {g m S k : Nat} {G : Nat → Nat → Nat} {C : Option Nat} (h : Seg W g 2 0 m (fun i => .int .i64 (fcell G S C k i))) (hA : fxIn G S C k = none) : Seg W g 2 0 m (fun i => .int .i64 (fcell G S C (k + 1) i)) := by
  refine h.congr fun j hj => ?_
  show _ = Value.int .i64 (if fxIn G S C k = some j then fcell G S C k j + 1 else fcell G S C k j)
  rw [hA, if_neg (by simp)]
theorem lost_out {G : Nat → Nat → Nat} {S k : Nat} {C : Option Nat} (hA : fxIn G S C k = none) : flost G S C (k + 1) = flost G S C k + 1 := by
  show (if _ then _ else _) = _
  rw [if_pos hA]
theorem lost_in {G : Nat → Nat → Nat} {S k A : Nat} {C : Option Nat} (hA : fxIn G S C k = some A) : flost G S C (k + 1) = flost G S C k := by
  show (if _ then _ else _) = _
  rw [if_neg (by rw [hA]; simp)]
abbrev K1000 : Nat := 4652007308841189376
def okCell (c : Nat) : Prop := (FloatKind.f64.format.order c 0 == some .gt) = true ∧ (FloatKind.f64.format.order c K1000 == some .lt || FloatKind.f64.format.order c K1000 == some .eq) = true
theorem cp_of {c : Nat} (hc : W64 c) (h : okCell c) : CP c := by
  have h1 : FloatKind.f64.format.order c 0 = some .gt := by simpa using h.1
  obtain ⟨n, s, p⟩ := pos_of_gt hc h1
  have := le_rg hc (show W64 K1000 by decide) (by decide) s (by decide) h.2
  have e : rg K1000 = 4652007308841189376 := by decide
  exact ⟨hc, s, p, by omega⟩
theorem sq_le20 {s : Nat} (h : s ≤ 20) : s * s ≤ 400 := Nat.mul_le_mul h h
theorem isSide_any' (s : Int) (w : World) : Calls Try.prog 80 #[.int .i64 s] w fun e w' => e = .returned (.bool (decide (1 ≤ s ∧ s ≤ 20))) ∧ w = w' := by
  go_enter Try.func80, Try.ntmps80
  by_cases h0 : 1 ≤ s
  · by_cases h5 : s ≤ 20
    · have e : decide (1 ≤ s ∧ s ≤ 20) = true := by simp [h0, h5]
      rw [e]
      go_wp2
      go_ret
      exact ⟨rfl, rfl⟩
    · have e : decide (1 ≤ s ∧ s ≤ 20) = false := by simp [h5]
      rw [e]
      go_wp2
      go_ret
      exact ⟨rfl, rfl⟩
  · have e : decide (1 ≤ s ∧ s ≤ 20) = false := by simp [h0]
    rw [e]
    go_wp2
    go_ret
    exact ⟨rfl, rfl⟩
end Go.Proofs.Ytcmgafgboepllaa
