/- Complex numbers: sizes, comparisons, signs turned: contracts; the laws' own comparison. -/
import Derived.Test.YtbcidfmfkmeinaaZm
namespace Go.Proofs.Ytbcidfmfkmeinaa
open Go.RowKit Fl
set_option linter.unusedVariables false
/-- A word and its class. -/
structure Fc (x : Nat) (o : Option Nat) : Prop where
  lx : W64 x
  c : cl x = o
def FV (fn : FuncId) (args : Array Value) (w : World) (o : Option Nat) : Prop :=
  Calls Try.prog fn args w fun e w' => ∃ v, e = .returned (.float .f64 v) ∧ Fc v o ∧ Below w.heap.size w w'
def normC (p : Option Nat × Option Nat) : Option Nat := opC .add (opC .mul p.1 p.1) (opC .mul p.2 p.2)
/-- Equal as the language's complex numbers are. -/
def oeq (x y : Nat) : Bool := FloatKind.f64.format.order x y == some .eq
def sameB (a b c d : Nat) : Bool := oeq a c && oeq b d
theorem ceq_run (a b c d : Nat) : ∀ t w, (binOp .eql t (.complex .f64 a b) (.complex .f64 c d)).run Try.prog w = .ok (.bool (sameB a b c d)) w := fun t w => by
  simp [binOp, Op.complexOp, ccmp_eql, sameB, oeq]
theorem ret_bool {a b : Bool} (h : a = b) : Ending.returned (.bool a) = .returned (.bool b) := by rw [h]
theorem boxes {w : World} {a b c d : Value} {t s : TypeId} {W : World} (h : Below (w.heap.size + 2) ((w.alloc (.cells #[a, b] t)).alloc (.cells #[c, d] s)) W) :
    W.cell? ⟨w.heap.size, 0, none⟩ = some a ∧ W.cell? ⟨w.heap.size, 1, none⟩ = some b ∧ W.cell? ⟨w.heap.size + 1, 0, none⟩ = some c ∧ W.cell? ⟨w.heap.size + 1, 1, none⟩ = some d := by
  have c0 := h.cell (p := ⟨w.heap.size, 0, none⟩) (by simp)
  have c1 := h.cell (p := ⟨w.heap.size, 1, none⟩) (by simp)
  have c2 := h.cell (p := ⟨w.heap.size + 1, 0, none⟩) (by simp)
  have c3 := h.cell (p := ⟨w.heap.size + 1, 1, none⟩) (by simp)
  simp at c0 c1 c2 c3
  exact ⟨c0, c1, c2, c3⟩
/-- Old cells and marks, behind a call. -/
theorem olds {X W : World} (h : Below X.heap.size X W) : (∀ k j, k < X.heap.size → W.cell? ⟨k, j, none⟩ = X.cell? ⟨k, j, none⟩) ∧ (∀ k j, k < X.heap.size → W.frozen? ⟨k, j, none⟩ = X.frozen? ⟨k, j, none⟩) ∧ (∀ k, k < X.heap.size → k < W.heap.size) :=
  ⟨fun k j hk => h.cell (p := ⟨k, j, none⟩) hk, fun k j hk => h.frozen (p := ⟨k, j, none⟩) hk, fun _ hk => Nat.lt_of_lt_of_le hk h.size⟩
theorem old_cell {X W : World} (h : Below X.heap.size X W) {p : Addr} {v : Value} (hp : p.block < X.heap.size) (hv : X.cell? p = some v) : W.cell? p = some v := by rw [h.cell hp]; exact hv
theorem box_step {B : Nat} {X a b : World} (h : Below B X a) (k : Below a.heap.size a b) (hB : B ≤ X.heap.size) : Below B X b := h.trans (k.mono (Nat.le_trans hB h.size))
theorem below_of_alloc {w : World} {o : Obj} {W : World} (h : W = w.alloc o) : Below w.heap.size w W := by subst h; exact (Below.refl _ _).alloc (Nat.le_refl _) _
theorem box2 {w w1 : World} {a b : Value} {t : TypeId} (h : Below (w.heap.size + 1) (w.alloc (.cells #[a, b] t)) w1) : w1.cell? ⟨w.heap.size, 0, none⟩ = some a ∧ w1.cell? ⟨w.heap.size, 1, none⟩ = some b := by
  have c0 := h.cell (p := ⟨w.heap.size, 0, none⟩) (by simp)
  have c1 := h.cell (p := ⟨w.heap.size, 1, none⟩) (by simp)
  simp at c0 c1
  exact ⟨c0, c1⟩
theorem box_out {w : World} {o : Obj} {w1 : World} (h : Below (w.heap.size + 1) (w.alloc o) w1) : Below w.heap.size w w1 := (below_of_alloc rfl).trans (h.mono (by omega))
end Go.Proofs.Ytbcidfmfkmeinaa
