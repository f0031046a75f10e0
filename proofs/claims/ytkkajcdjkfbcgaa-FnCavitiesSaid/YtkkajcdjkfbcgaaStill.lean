/- A region that draws its order, whose own operations only read and whose calls may make new memory: one walk of the text's order serves every order. The class of worlds: all that lay below a bound is as it was. -/
import Derived.Deep.Quiet
import Derived.Deep.QuietTactic
import Derived.BigQuiet
import Derived.Below
import Derived.WalkSmall
namespace Go.Proofs.Ytkkajcdjkfbcgaa
open Go.RowKit
/-- A world in which all that lay below B in W is as it was. -/
structure Kept (B : Nat) (W : World) where
  w : World
  h : Below B W w
theorem kept_some (B : Nat) (W : World) : Nonempty (Kept B W) := ⟨⟨W, Below.refl B W⟩⟩
theorem Kept.cell {B : Nat} {W : World} (x : Kept B W) {p : Addr} {v : Value} (hp : p.block < B) (h : W.cell? p = some v) : x.w.cell? p = some v := by rw [x.h.cell hp]; exact h
theorem wp_region_kept {P : Program} {id : Nat} {Q : Exit → Act → World → Prop} {a : Act} {w : World} {l : List Oper} (B : Nat) (hm : P.follows .mixedOrders = true) (hB : Region.lexB .any l.toArray = true)
    (h : Nonempty (Kept B w) → wpQuiet P l.toArray (fun w' => ∃ x : Kept B w, w' = x.w) (fun a' => ∀ w', (∃ x : Kept B w, w' = x.w) → Q .normal a' w') l a) : (Code.region id l.toArray true).wp P Q a w :=
  wp_region_quiet (C := fun w' => ∃ x : Kept B w, w' = x.w) hm hB ⟨⟨w.drew, (Below.refl B w).drew⟩, rfl⟩ (by simpa using h (kept_some B w))
theorem Calls.kept_of {P : Program} {f : FuncId} {args : Array Value} {B : Nat} {W : World} {x : Kept B W} {v : Value} (hB : B ≤ W.heap.size)
    (h : Calls P f args x.w fun e w' => e = .returned v ∧ Below x.w.heap.size x.w w') : Calls P f args x.w fun e w'' => e = .returned v ∧ ∃ y : Kept B W, w'' = y.w :=
  h.mono fun _ w' ⟨he, hb⟩ => ⟨he, ⟨w', x.h.trans (hb.mono (Nat.le_trans hB x.h.size))⟩, rfl⟩
theorem Calls.kept_same {P : Program} {f : FuncId} {args : Array Value} {B : Nat} {W : World} {x : Kept B W} {v : Value}
    (h : Calls P f args x.w fun e w' => e = .returned v ∧ w' = x.w) : Calls P f args x.w fun e w'' => e = .returned v ∧ ∃ y : Kept B W, w'' = y.w :=
  h.mono fun _ _ ⟨he, hb⟩ => ⟨he, x, hb⟩
theorem below_of_alloc {w : World} {o : Obj} {W : World} (h : W = w.alloc o) : Below w.heap.size w W := by subst h; exact (Below.refl _ _).alloc (Nat.le_refl _) _

theorem below_then {B : Nat} {a b c : World} (h : Below B a b) (k : Below b.heap.size b c) (hB : B ≤ a.heap.size) : Below B a c := h.trans (k.mono (Nat.le_trans hB h.size))

theorem box2 {w w1 : World} {a b : Value} {t : TypeId} (h : Below (w.heap.size + 1) (w.alloc (.cells #[a, b] t)) w1) : w1.cell? ⟨w.heap.size, 0, none⟩ = some a ∧ w1.cell? ⟨w.heap.size, 1, none⟩ = some b := by
  have c0 := h.cell (p := ⟨w.heap.size, 0, none⟩) (by simp)
  have c1 := h.cell (p := ⟨w.heap.size, 1, none⟩) (by simp)
  simp at c0 c1
  exact ⟨c0, c1⟩
/-- What a call leaves, behind a box of the caller's own. -/
theorem box_step {B : Nat} {X a b : World} (h : Below B X a) (k : Below a.heap.size a b) (hB : B ≤ X.heap.size) : Below B X b := h.trans (k.mono (Nat.le_trans hB h.size))
theorem box_out {w : World} {o : Obj} {w1 : World} (h : Below (w.heap.size + 1) (w.alloc o) w1) : Below w.heap.size w w1 := (below_of_alloc rfl).trans (h.mono (by omega))
theorem box3 {w w1 : World} {a b c : Value} {t : TypeId} (h : Below (w.heap.size + 1) (w.alloc (.cells #[a, b, c] t)) w1) :
    w1.cell? ⟨w.heap.size, 0, none⟩ = some a ∧ w1.cell? ⟨w.heap.size, 1, none⟩ = some b ∧ w1.cell? ⟨w.heap.size, 2, none⟩ = some c ∧ w1.frozen? ⟨w.heap.size, 0, none⟩ = false ∧ w1.frozen? ⟨w.heap.size, 1, none⟩ = false ∧ w1.frozen? ⟨w.heap.size, 2, none⟩ = false ∧ w.heap.size < w1.heap.size := by
  have c0 := h.cell (p := ⟨w.heap.size, 0, none⟩) (by simp)
  have c1 := h.cell (p := ⟨w.heap.size, 1, none⟩) (by simp)
  have c2 := h.cell (p := ⟨w.heap.size, 2, none⟩) (by simp)
  have f0 := h.frozen (p := ⟨w.heap.size, 0, none⟩) (by simp)
  have f1 := h.frozen (p := ⟨w.heap.size, 1, none⟩) (by simp)
  have f2 := h.frozen (p := ⟨w.heap.size, 2, none⟩) (by simp)
  have hs := h.size
  simp at c0 c1 c2 f0 f1 f2 hs
  exact ⟨c0, c1, c2, f0, f1, f2, hs⟩
end Go.Proofs.Ytkkajcdjkfbcgaa
