/- The sag of a face, plainly, by classes of floats: planes and conics. No program but for small calls. -/
import Derived.Test.YtbcidfmfkmeinaaBk
import Derived.Test.YtbcidfmfkmeinaaZab
namespace Go.Proofs.Ytbcidfmfkmeinaa
open Go.RowKit Fl
set_option linter.unusedVariables false
def finO (o : Option Nat) : Bool := match o with | none => false | some x => decide (rg x < 9218868437227405312)
def sqr (x y : Option Nat) : Option Nat := opC .add (opC .mul x x) (opC .mul y y)
def sagU (c k r : Option Nat) : Option Nat := opC .sub oneO (opC .mul (opC .mul (opC .mul (opC .add oneO k) c) c) r)
def sagC (c k r : Option Nat) : Option (Option Nat × Option Nat) :=
  if geO (sagU c k r) zO then some (opC .quo (opC .mul c r) (opC .add oneO (sqO (sagU c k r))), sqO (sagU c k r)) else none
def planeC (c r : Option Nat) : Option (Option Nat × Option Nat) := if finO r then some (c, oneO) else none
def isPl (c k : Option Nat) : Bool := ordO c zO == some .eq && finO k
abbrev Hv (c : Int) (s u : Nat) : Value := .agg #[.int .i64 c, .float .f64 s, .float .f64 u]
def sgS (o : Option (Option Nat × Option Nat)) : Option Nat := (o.getD (zO, zO)).1
def sgU (o : Option (Option Nat × Option Nat)) : Option Nat := (o.getD (zO, zO)).2
def SV (fn : FuncId) (args : Array Value) (w : World) (o : Option (Option Nat × Option Nat)) : Prop :=
  Calls Try.prog fn args w fun e w' => ∃ s u, e = .returned (Hv (codeOf o) s u) ∧ (Fc s (sgS o) ∧ Fc u (sgU o)) ∧ Below w.heap.size w w'
theorem cl_word {o : Option Nat} {x : Nat} (h : Fc x o) (hx : finO o = true) : o = some x ∧ rg x < 9218868437227405312 := by
  rw [← h.c] at hx ⊢
  by_cases n : Num x
  · simp only [cl, n, if_true] at hx ⊢
    exact ⟨trivial, by simpa [finO] using hx⟩
  · simp [cl, n, finO] at hx
/-- A class that is a word's. -/
def Wc (o : Option Nat) : Prop := ∀ x, o = some x → W64 x ∧ Num x
theorem Fc.wc {x : Nat} {o : Option Nat} (h : Fc x o) : Wc o := by
  intro y e
  rw [← h.c] at e
  by_cases n : Num x
  · rw [cl, if_pos n] at e
    obtain rfl := Option.some.inj e
    exact ⟨h.lx, n⟩
  · rw [cl, if_neg n] at e; cases e
theorem wc_op (op : BinOp) (a b : Option Nat) : Wc (opC op a b) := by
  intro y e
  unfold opC at e
  cases a with
  | none => simp at e
  | some x =>
    cases b with
    | none => simp at e
    | some z =>
      simp only [Option.bind_some] at e
      cases h : floatBits op .f64 x z with
      | none => rw [h] at e; simp at e
      | some r =>
        rw [h] at e
        simp only [Option.bind_some] at e
        have hw : r < 18446744073709551616 := by simpa [Lit.wf] using floatBits_wf h
        by_cases n : Num r
        · rw [cl, if_pos n] at e
          obtain rfl := Option.some.inj e
          exact ⟨hw, n⟩
        · rw [cl, if_neg n] at e; cases e
/-- Nought, of either sign. -/
def Nought (x : Nat) : Prop := x = 0 ∨ x = 9223372036854775808
theorem nought_of {x : Nat} (h : W64 x) (h0 : rg x = 0) : Nought x := by
  unfold W64 at h; simp only [rg] at h0; unfold Nought; omega
theorem eq_zero_iff {c : Option Nat} (hc : Wc c) : (ordO c zO == some .eq) = true ↔ ∃ x, c = some x ∧ Nought x := by
  cases c with
  | none => simp [ordO]
  | some x =>
    obtain ⟨hx, nx⟩ := hc x rfl
    have ho : ordO (some x) zO = some (if rg x = 0 then .eq else if sg x then .lt else .gt) := order_zero hx nx
    rw [ho]
    constructor
    · intro h
      refine ⟨x, rfl, nought_of hx ?_⟩
      by_cases h0 : rg x = 0
      · exact h0
      · rw [if_neg h0] at h
        by_cases hs : sg x = true
        · rw [if_pos hs] at h; exact absurd h (by decide)
        · rw [if_neg hs] at h; exact absurd h (by decide)
    · rintro ⟨y, e, h⟩
      obtain rfl := Option.some.inj e
      have : rg x = 0 := by rcases h with rfl | rfl <;> decide
      rw [if_pos this]; rfl
theorem mul_zero_fin {z r : Nat} (hz : Nought z) (hr : W64 r) (fr : rg r < 9218868437227405312) : floatBits .mul .f64 z r = some (dW (sg z != sg r) 0) := by
  have hz' : W64 z := by rcases hz with rfl | rfl <;> decide
  have h0 : rg z = 0 := by rcases hz with rfl | rfl <;> decide
  have h := mul_fin hz' hr (by rw [h0]; decide) fr
  rw [h0, mg_zero, Nat.zero_mul, rungOf_zero] at h
  exact h
end Go.Proofs.Ytbcidfmfkmeinaa
