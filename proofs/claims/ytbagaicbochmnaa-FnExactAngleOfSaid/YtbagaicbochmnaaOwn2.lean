/- Two blocks of a call's own beside all that lay below a bound: plain laws on worlds. -/
import Derived.Test.YtbagaicbochmnaaMrow
namespace Go.Proofs.Ytbagaicbochmnaa
open Go.RowKit Fl
theorem Own.setOther {B : Nat} {X W : World} {r n : Nat} {t : TypeId} (h : Own B X r n t W) {s j : Nat} (hs : B ≤ s) (hne : r ≠ s) (v : Value) : Own B X r n t (W.setCell ⟨s, j, none⟩ v) := by
  refine ⟨h.below.setCell hs v, h.lower, ?_⟩
  rw [Below.heap_setCell _ _ _ _ (by simpa using hne)]
  exact h.block
/-- Blocks r and s, from B on, of n cells each. -/
structure Two (B : Nat) (X : World) (r s n : Nat) (t : TypeId) (W : World) : Prop where
  a : Own B X r n t W
  b : Own B X s n t W
  ne : r ≠ s
namespace Two
variable {B : Nat} {X W : World} {r s n : Nat} {t : TypeId}
theorem drew (h : Two B X r s n t W) : Two B X r s n t W.drew := ⟨h.a.drew, h.b.drew, h.ne⟩
theorem drewN (h : Two B X r s n t W) (q : Nat) : Two B X r s n t (W.drewN q) := ⟨h.a.drewN q, h.b.drewN q, h.ne⟩
theorem call (h : Two B X r s n t W) {W' : World} (k : Below W.heap.size W W') : Two B X r s n t W' := ⟨h.a.call k, h.b.call k, h.ne⟩
theorem alloc (h : Two B X r s n t W) (o : Obj) : Two B X r s n t (W.alloc o) := ⟨h.a.alloc o, h.b.alloc o, h.ne⟩
theorem setA (h : Two B X r s n t W) (j : Nat) (v : Value) : Two B X r s n t (W.setCell ⟨r, j, none⟩ v) := ⟨h.a.set j v, h.b.setOther h.a.lower h.ne.symm v, h.ne⟩
theorem setB (h : Two B X r s n t W) (j : Nat) (v : Value) : Two B X r s n t (W.setCell ⟨s, j, none⟩ v) := ⟨h.a.setOther h.b.lower h.ne v, h.b.set j v, h.ne⟩
theorem setOther (h : Two B X r s n t W) {k j : Nat} (hk : B ≤ k) (h1 : r ≠ k) (h2 : s ≠ k) (v : Value) : Two B X r s n t (W.setCell ⟨k, j, none⟩ v) := ⟨h.a.setOther hk h1 v, h.b.setOther hk h2 v, h.ne⟩
end Two
end Go.Proofs.Ytbagaicbochmnaa
