/- Frames filled in any order: what is not laid yet may be said anew; letters for frames; a block that is stored whole. -/
import Derived.Test.YtbcidfmfkmeinaaIw
import Derived.Test.YtbcidfmfkmeinaaRw
import Derived.Laws.Tables
namespace Go.Proofs.Ytbcidfmfkmeinaa
open Go.RowKit
theorem letA {f : Act → World → Prop} {a : Act} {w : World} (h : ∀ a0, a0 = a → f a0 w) : f a w := h a rfl
def SameL (listed : Array Bool) : List Lay → List Lay → Prop
  | [], [] => True
  | x :: l, y :: m => (x.i = y.i ∧ x.d = y.d ∧ (listed.getD x.i false = true → x.v = y.v)) ∧ SameL listed l m
  | _, _ => False
theorem fill_same {a0 : Act} {listed : Array Bool} : ∀ {l m : List Lay}, SameL listed l m → fillA a0 listed l = fillA a0 listed m
  | [], [], _ => rfl
  | [], _ :: _, h => by cases h
  | _ :: _, [], h => by cases h
  | x :: l, y :: m, h => by
    obtain ⟨⟨e1, e2, e3⟩, h2⟩ := h
    have ih := fill_same (a0 := a0) h2
    simp only [fillA]
    rw [← e1, ← e2, ih]
    by_cases c : listed.getD x.i false = true
    · rw [if_pos c, if_pos c, e3 c]
    · rw [if_neg c, if_neg c]
end Go.Proofs.Ytbcidfmfkmeinaa
