/- Turns: contract of the specification's. -/
import Derived.Test.YtbagaicbochmnaaTu
import Derived.Test.YtbagaicbochmnaaOwn2
import Derived.Test.YtbagaicbochmnaaKeeps
import Derived.Deep.DeepCutAuto
namespace Go.Proofs.Ytbagaicbochmnaa
open Go.RowKit Fl
set_option linter.unusedVariables false
set_option linter.unusedSimpArgs false
/-- Three blocks of a call's own. -/
structure Thr (B : Nat) (X : World) (r s u n : Nat) (t : TypeId) (W : World) : Prop where
  two : Two B X r s n t W
  c : Own B X u n t W
  n1 : r ≠ u
  n2 : s ≠ u
namespace Thr
variable {B : Nat} {X W : World} {r s u n : Nat} {t : TypeId}
theorem drewN (h : Thr B X r s u n t W) (q : Nat) : Thr B X r s u n t (W.drewN q) := ⟨h.two.drewN q, h.c.drewN q, h.n1, h.n2⟩
theorem opW (h : Thr B X r s u n t W) (op : BinOp) (x y : Nat) : Thr B X r s u n t (Fl.opW op x y W) := by
  obtain ⟨q, hq⟩ := opW_drewN op x y W
  rw [hq]; exact h.drewN q
theorem call (h : Thr B X r s u n t W) {W' : World} (k : Below W.heap.size W W') : Thr B X r s u n t W' := ⟨h.two.call k, h.c.call k, h.n1, h.n2⟩
theorem setA (h : Thr B X r s u n t W) (j : Nat) (v : Value) : Thr B X r s u n t (W.setCell ⟨r, j, none⟩ v) := ⟨h.two.setA j v, h.c.setOther h.two.a.lower h.n1.symm v, h.n1, h.n2⟩
theorem setB (h : Thr B X r s u n t W) (j : Nat) (v : Value) : Thr B X r s u n t (W.setCell ⟨s, j, none⟩ v) := ⟨h.two.setB j v, h.c.setOther h.two.b.lower h.n2.symm v, h.n1, h.n2⟩
theorem setC (h : Thr B X r s u n t W) (j : Nat) (v : Value) : Thr B X r s u n t (W.setCell ⟨u, j, none⟩ v) := ⟨h.two.setOther h.c.lower h.n1 h.n2 v, h.c.set j v, h.n1, h.n2⟩
end Thr
theorem bit_int {T : Int} (h0 : 0 ≤ T) (h1 : T < 1048576) (k : Nat) : bits .and .i64 (T / 2 ^ k) 1 = T / 2 ^ k % 2 := by
  have hp : (0 : Int) < 2 ^ k := Int.pow_pos (by omega)
  have a0 : 0 ≤ T / 2 ^ k := Int.ediv_nonneg h0 (by omega)
  have a1 : T / 2 ^ k ≤ T := Int.ediv_le_self _ h0
  have hw : ∀ x : Int, 0 ≤ x → x < 2 ^ 63 → IntKind.i64.wrap x = x := fun x a b => by rw [IntKind.wrap_i64]; omega
  have := bits_mask .i64 63 (by decide) hw 1 (by omega) (T / 2 ^ k) a0 (by omega)
  rw [show (2 : Int) ^ 1 - 1 = 1 by decide, show (2 : Int) ^ 1 = 2 by decide] at this
  exact this
end Go.Proofs.Ytbagaicbochmnaa
