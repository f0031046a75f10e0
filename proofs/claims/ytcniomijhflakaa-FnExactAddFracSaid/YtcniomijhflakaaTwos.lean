/- Two fractions' boxes; what a call leaves of them. -/
import Derived.Test.YtcniomijhflakaaStill
namespace Go.Proofs.Ytcniomijhflakaa
open Go.RowKit
theorem boxes {w : World} {a b c d : Value} {W : World} (h : Below (w.heap.size + 2) ((w.alloc (.cells #[a, b] 23)).alloc (.cells #[c, d] 23)) W) :
    W.cell? ⟨w.heap.size, 0, none⟩ = some a ∧ W.cell? ⟨w.heap.size, 1, none⟩ = some b ∧ W.cell? ⟨w.heap.size + 1, 0, none⟩ = some c ∧ W.cell? ⟨w.heap.size + 1, 1, none⟩ = some d := by
  have c0 := h.cell (p := ⟨w.heap.size, 0, none⟩) (by simp)
  have c1 := h.cell (p := ⟨w.heap.size, 1, none⟩) (by simp)
  have c2 := h.cell (p := ⟨w.heap.size + 1, 0, none⟩) (by simp)
  have c3 := h.cell (p := ⟨w.heap.size + 1, 1, none⟩) (by simp)
  simp at c0 c1 c2 c3
  exact ⟨c0, c1, c2, c3⟩
/-- Old cells and marks, behind a call. -/
theorem olds {X W : World} (h : Below X.heap.size X W) : (∀ k j, k < X.heap.size → W.cell? ⟨k, j, none⟩ = X.cell? ⟨k, j, none⟩) ∧ (∀ k j, k < X.heap.size → W.frozen? ⟨k, j, none⟩ = X.frozen? ⟨k, j, none⟩) ∧ (∀ k, k < X.heap.size → k < W.heap.size) :=
  ⟨fun k j hk => h.cell (p := ⟨k, j, none⟩) hk, fun k j hk => h.frozen (p := ⟨k, j, none⟩) hk, fun _ hk => Nat.lt_of_lt_of_le hk h.size⟩
theorem old_cell {X W : World} (h : Below X.heap.size X W) {p : Addr} {v : Value} (hp : p.block < X.heap.size) (hv : X.cell? p = some v) : W.cell? p = some v := by rw [h.cell hp]; exact hv
end Go.Proofs.Ytcniomijhflakaa
