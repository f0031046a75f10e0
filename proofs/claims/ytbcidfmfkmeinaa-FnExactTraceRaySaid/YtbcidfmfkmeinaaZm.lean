/- Complex numbers: sums, differences, products, signs turned: contracts of the specification's and the program's functions. -/
import Derived.Test.YtbcidfmfkmeinaaOwn
import Derived.Deep.RegionHeld3
namespace Go.Proofs.Ytbcidfmfkmeinaa
open Go.RowKit Fl
set_option linter.unusedVariables false
/-- Products and sums of classes. -/
def mulC (p q : Option Nat × Option Nat) : Option Nat × Option Nat := (mulRe p.1 p.2 q.1 q.2, mulIm p.1 p.2 q.1 q.2)
def sumC (op : BinOp) (p q : Option Nat × Option Nat) : Option Nat × Option Nat := (opC op p.1 q.1, opC op p.2 q.2)
theorem cmul_fun {a b c d : Nat} {p q : Option Nat × Option Nat} (h : Zc a b p) (k : Zc c d q) : ∃ E F n : World → Nat, (∀ t w, (binOp .mul t (.complex .f64 a b) (.complex .f64 c d)).run Try.prog w = .ok (.complex .f64 (E w) (F w)) (w.drewN (n w))) ∧
    (∀ w, Zc (E w) (F w) (mulC p q)) := by
  have g := fun w => cmul_step (P := Try.prog) 0 h.lx h.ly k.lx k.ly w
  refine ⟨fun w => (g w).choose, fun w => (g w).choose_spec.choose, fun w => (g w).choose_spec.choose_spec.choose, fun t w => ?_, fun w => ?_⟩
  · exact (g w).choose_spec.choose_spec.choose_spec.1
  · obtain ⟨_, h1, h2, h3, h4⟩ := (g w).choose_spec.choose_spec.choose_spec
    exact ⟨h1, h2, by rw [h3, h4, ← h.c, ← k.c]; rfl⟩
theorem csum_fun (op : BinOp) (hop : op = .add ∨ op = .sub) {a b c d : Nat} {p q : Option Nat × Option Nat} (h : Zc a b p) (k : Zc c d q) : ∃ E F n : World → Nat, (∀ t w, (binOp op t (.complex .f64 a b) (.complex .f64 c d)).run Try.prog w = .ok (.complex .f64 (E w) (F w)) (w.drewN (n w))) ∧
    (∀ w, Zc (E w) (F w) (sumC op p q)) := by
  have g := fun w => csum_step (P := Try.prog) op hop 0 h.lx h.ly k.lx k.ly w
  refine ⟨fun w => (g w).choose, fun w => (g w).choose_spec.choose, fun w => (g w).choose_spec.choose_spec.choose, fun t w => ?_, fun w => ?_⟩
  · have := (g w).choose_spec.choose_spec.choose_spec.1
    rcases hop with rfl | rfl <;> exact this
  · obtain ⟨_, h1, h2, h3, h4⟩ := (g w).choose_spec.choose_spec.choose_spec
    exact ⟨h1, h2, by rw [h3, h4, ← h.c, ← k.c]; rfl⟩
end Go.Proofs.Ytbcidfmfkmeinaa
