/- A call's own result block, and all that lay below a bound as it was: what a region with calls, draws and a last store keeps. Plain laws on worlds. -/
import Derived.Test.YtkkajcdjkfbcgaaRo
import Derived.Deep.RegionHeld3
namespace Go.Proofs.Ytkkajcdjkfbcgaa
open Go.RowKit
/-- What lay below B in X is as it was; block r, from B on, has n cells of type t, none frozen. -/
structure Own (B : Nat) (X : World) (r n : Nat) (t : TypeId) (W : World) : Prop where
  below : Below B X W
  lower : B ≤ r
  block : ∃ c : Array Value, W.heap[r]? = some (.cells c t (0, 0)) ∧ c.size = n
/-- What a cell holds. -/
def got (W : World) (r j : Nat) : Value := (W.cell? ⟨r, j, none⟩).getD undef
namespace Own
variable {B : Nat} {X W : World} {r n : Nat} {t : TypeId}
theorem lt (h : Own B X r n t W) : r < W.heap.size := by
  obtain ⟨c, hb, _⟩ := h.block
  exact (Array.getElem?_eq_some_iff.1 hb).1
theorem cell (h : Own B X r n t W) {j : Nat} (hj : j < n) : W.cell? ⟨r, j, none⟩ = some (got W r j) := by
  obtain ⟨c, hb, hs⟩ := h.block
  have : W.cell? ⟨r, j, none⟩ = some (c[j]'(by omega)) := by simp [World.cell?, hb, Array.getElem?_eq_getElem (show j < c.size by omega)]
  unfold got
  rw [this]; rfl
theorem frozen (h : Own B X r n t W) (j : Nat) : W.frozen? ⟨r, j, none⟩ = false := by
  obtain ⟨c, hb, _⟩ := h.block
  simp [World.frozen?, hb]
theorem drew (h : Own B X r n t W) : Own B X r n t W.drew := ⟨h.below.drew, h.lower, h.block⟩
theorem drewN (h : Own B X r n t W) (q : Nat) : Own B X r n t (W.drewN q) := ⟨below_drewN h.below q, h.lower, h.block⟩
theorem call (h : Own B X r n t W) {W' : World} (k : Below W.heap.size W W') : Own B X r n t W' := by
  refine ⟨h.below.trans (k.mono (Nat.le_trans h.lower (Nat.le_of_lt h.lt))), h.lower, ?_⟩
  rw [k.block _ h.lt]; exact h.block
theorem alloc (h : Own B X r n t W) (o : Obj) : Own B X r n t (W.alloc o) := h.call ((Below.refl _ _).alloc (Nat.le_refl _) _)
theorem set (h : Own B X r n t W) (j : Nat) (v : Value) : Own B X r n t (W.setCell ⟨r, j, none⟩ v) := by
  refine ⟨h.below.setCell h.lower v, h.lower, ?_⟩
  obtain ⟨c, hb, hs⟩ := h.block
  exact ⟨c.setIfInBounds j v, by simp [World.setCell, Array.getElem?_modify, hb], by simpa using hs⟩
theorem old (h : Own B X r n t W) {p : Addr} {v : Value} (hp : p.block < B) (hv : X.cell? p = some v) : W.cell? p = some v := by rw [h.below.cell hp]; exact hv
end Own
theorem own_made {X : World} {B : Nat} {t : TypeId} (c : Array Value) (hB : B ≤ X.heap.size) : Own B X X.heap.size c.size t (X.alloc (.cells c t)) :=
  ⟨(Below.refl _ _).alloc hB _, hB, ⟨c, by show (X.heap.push _)[X.heap.size]? = _; simp, rfl⟩⟩
theorem Own.out {B : Nat} {w X W : World} {r n : Nat} {t : TypeId} (h : Own B X r n t W) (k : Below w.heap.size w X) (hB : w.heap.size ≤ B) : Below w.heap.size w W := k.trans (h.below.mono hB)
end Go.Proofs.Ytkkajcdjkfbcgaa
