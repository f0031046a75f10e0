/- A region that draws its order, whose own operations only read and whose calls may make new memory: one walk of the text's order serves every order. The class of worlds: all that lay below a bound is as it was. -/
import Derived.Deep.Quiet
import Derived.Deep.QuietTactic
import Derived.BigQuiet
import Derived.Below
import Derived.WalkSmall
namespace Go.Proofs.YtndfncjoknibaaaDoor
open Go.RowKit
/-- A world in which all that lay below B in W is as it was. -/
structure Kept (B : Nat) (W : World) where
  w : World
  h : Below B W w
theorem kept_some (B : Nat) (W : World) : Nonempty (Kept B W) := ⟨⟨W, Below.refl B W⟩⟩
theorem Kept.cell {B : Nat} {W : World} (x : Kept B W) {p : Addr} {v : Value} (hp : p.block < B) (h : W.cell? p = some v) : x.w.cell? p = some v := by rw [x.h.cell hp]; exact h
theorem wp_region_kept {P : Program} {id : Nat} {Q : Exit → Act → World → Prop} {a : Act} {w : World} {l : List Oper} (B : Nat) (hm : P.follows .mixedOrders = true) (hB : Region.lexB .any l.toArray = true)
    (h : Nonempty (Kept B w) → wpQuiet P l.toArray (fun w' => ∃ x : Kept B w, w' = x.w) (fun a' => ∀ w', (∃ x : Kept B w, w' = x.w) → Q .normal a' w') l a) : (Code.region id l.toArray true).wp P Q a w :=
  wp_region_quiet (C := fun w' => ∃ x : Kept B w, w' = x.w) hm hB ⟨⟨w.drew, (Below.refl B w).drew⟩, rfl⟩ (by simpa using h (kept_some B w))
theorem Calls.kept_of {P : Program} {f : FuncId} {args : Array Value} {B : Nat} {W : World} {x : Kept B W} {v : Value} (hB : B ≤ W.heap.size)
    (h : Calls P f args x.w fun e w' => e = .returned v ∧ Below x.w.heap.size x.w w') : Calls P f args x.w fun e w'' => e = .returned v ∧ ∃ y : Kept B W, w'' = y.w :=
  h.mono fun _ w' ⟨he, hb⟩ => ⟨he, ⟨w', x.h.trans (hb.mono (Nat.le_trans hB x.h.size))⟩, rfl⟩
theorem Calls.kept_same {P : Program} {f : FuncId} {args : Array Value} {B : Nat} {W : World} {x : Kept B W} {v : Value}
    (h : Calls P f args x.w fun e w' => e = .returned v ∧ w' = x.w) : Calls P f args x.w fun e w'' => e = .returned v ∧ ∃ y : Kept B W, w'' = y.w :=
  h.mono fun _ _ ⟨he, hb⟩ => ⟨he, x, hb⟩
end Go.Proofs.YtndfncjoknibaaaDoor
