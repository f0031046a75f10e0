/- Three boxes of a callee's own: what they hold behind a call that kept all that lay there. -/
import Derived.Test.YtkkajcdjkfbcgaaStill
namespace Go.Proofs.Ytkkajcdjkfbcgaa
open Go.RowKit
theorem box223 {w w1 : World} {a b c d x y z : Value} {t t' t'' : TypeId} (h : Below (w.heap.size + 1 + 1 + 1) (((w.alloc (.cells #[a, b] t)).alloc (.cells #[c, d] t')).alloc (.cells #[x, y, z] t'')) w1) :
    (w1.cell? ⟨w.heap.size, 0, none⟩ = some a ∧ w1.cell? ⟨w.heap.size, 1, none⟩ = some b ∧ w1.cell? ⟨w.heap.size + 1, 0, none⟩ = some c ∧ w1.cell? ⟨w.heap.size + 1, 1, none⟩ = some d) ∧
    (w1.cell? ⟨w.heap.size + 1 + 1, 0, none⟩ = some x ∧ w1.cell? ⟨w.heap.size + 1 + 1, 1, none⟩ = some y ∧ w1.cell? ⟨w.heap.size + 1 + 1, 2, none⟩ = some z) ∧
    (w1.frozen? ⟨w.heap.size + 1 + 1, 0, none⟩ = false ∧ w1.frozen? ⟨w.heap.size + 1 + 1, 1, none⟩ = false ∧ w1.frozen? ⟨w.heap.size + 1 + 1, 2, none⟩ = false) ∧ w.heap.size + 1 + 1 < w1.heap.size := by
  have c0 := h.cell (p := ⟨w.heap.size, 0, none⟩) (by simp; omega)
  have c1 := h.cell (p := ⟨w.heap.size, 1, none⟩) (by simp; omega)
  have c2 := h.cell (p := ⟨w.heap.size + 1, 0, none⟩) (by simp)
  have c3 := h.cell (p := ⟨w.heap.size + 1, 1, none⟩) (by simp)
  rw [World.cell?_alloc_lt _ _ _ (by simp <;> omega)] at c0 c1 c2 c3
  have r0 := h.cell (p := ⟨w.heap.size + 1 + 1, 0, none⟩) (by simp)
  have r1 := h.cell (p := ⟨w.heap.size + 1 + 1, 1, none⟩) (by simp)
  have r2 := h.cell (p := ⟨w.heap.size + 1 + 1, 2, none⟩) (by simp)
  have f0 := h.frozen (p := ⟨w.heap.size + 1 + 1, 0, none⟩) (by simp)
  have f1 := h.frozen (p := ⟨w.heap.size + 1 + 1, 1, none⟩) (by simp)
  have f2 := h.frozen (p := ⟨w.heap.size + 1 + 1, 2, none⟩) (by simp)
  rw [World.cell?_alloc_at _ _ _ _ (by simp)] at r0 r1 r2
  rw [World.frozen?_alloc_at _ _ _ _ (by simp)] at f0 f1 f2
  have hs := h.size
  simp at c0 c1 c2 c3 r0 r1 r2 hs
  exact ⟨⟨c0, c1, c2, c3⟩, ⟨r0, r1, r2⟩, ⟨f0, f1, f2⟩, hs⟩
end Go.Proofs.Ytkkajcdjkfbcgaa
