/- Complex numbers: the laws' own copies, the program's and the specification's small functions: contracts. -/
import Derived.Test.YtbcidfmfkmeinaaSqrt
import Derived.Test.YtbcidfmfkmeinaaFlTurn
import Derived.Handy
import Derived.Below
namespace Go.Proofs.Ytbcidfmfkmeinaa
open Go.RowKit Fl
set_option linter.unusedVariables false
/-- A complex number. -/
abbrev Zv (a b : Nat) : Value := .agg #[.float .f64 a, .float .f64 b]
/-- Two words and their classes. -/
structure Zc (x y : Nat) (o : Option Nat × Option Nat) : Prop where
  lx : W64 x
  ly : W64 y
  c : (cl x, cl y) = o
/-- What a function answers: a complex number of these classes; new blocks and draws beside. -/
def ZV (fn : FuncId) (args : Array Value) (w : World) (o : Option Nat × Option Nat) : Prop :=
  Calls Try.prog fn args w fun e w' => ∃ x y, e = .returned (Zv x y) ∧ Zc x y o ∧ Below w.heap.size w w'
theorem below_opW {B : Nat} {w W : World} {op : BinOp} {x y : Nat} (h : Below B w W) : Below B w (opW op x y W) := by
  rcases opW_below op x y W with e | e
  · rw [e]; exact h
  · rw [e]; exact h.drew
theorem cell_opW (op : BinOp) (x y : Nat) (W : World) (a : Addr) : (opW op x y W).cell? a = W.cell? a := by
  rcases opW_below op x y W with e | e
  · rw [e]
  · rw [e]; rfl
theorem frozen_opW (op : BinOp) (x y : Nat) (W : World) (a : Addr) : (opW op x y W).frozen? a = W.frozen? a := by
  rcases opW_below op x y W with e | e
  · rw [e]
  · rw [e]; rfl
theorem size_opW (op : BinOp) (x y : Nat) (W : World) : (opW op x y W).heap.size = W.heap.size := by
  rcases opW_below op x y W with e | e
  · rw [e]
  · rw [e]; rfl
theorem add_run : ∀ (x y : Nat) (t : TypeId) (w : World), (binOp .add t (.float .f64 x) (.float .f64 y)).run Try.prog w = .ok (.float .f64 (opV .add x y w)) (opW .add x y w) := fun x y t w => run_float w .add t x y (by simp)
theorem sub_run : ∀ (x y : Nat) (t : TypeId) (w : World), (binOp .sub t (.float .f64 x) (.float .f64 y)).run Try.prog w = .ok (.float .f64 (opV .sub x y w)) (opW .sub x y w) := fun x y t w => run_float w .sub t x y (by simp)
theorem mul_run : ∀ (x y : Nat) (t : TypeId) (w : World), (binOp .mul t (.float .f64 x) (.float .f64 y)).run Try.prog w = .ok (.float .f64 (opV .mul x y w)) (opW .mul x y w) := fun x y t w => run_float w .mul t x y (by simp)
theorem quo_run : ∀ (x y : Nat) (t : TypeId) (w : World), (binOp .quo t (.float .f64 x) (.float .f64 y)).run Try.prog w = .ok (.float .f64 (opV .quo x y w)) (opW .quo x y w) := fun x y t w => run_float w .quo t x y (by simp)
/-- A float is stored in one cell. -/
theorem st64 : ∀ (a : Addr) (m : Mode) (w : World) (x : Nat), (store a (.float .f64 x) m).run Try.prog w = stored Try.prog w a (.float .f64 x) m := fun a m w _ => run_store Try.prog w a _ m rfl
end Go.Proofs.Ytbcidfmfkmeinaa
