/- Blocks that stay; matrices as maps that are read; what a loop's invariant wants. -/
import Derived.Test.YtclnmikneomccaaMods
namespace Go.Proofs.Ytclnmikneomccaa
open Go.RowKit
set_option linter.unusedVariables false
theorem keep_below {lo hi b : Nat} {w w' : World} (h : Below b w w') (hb : hi ≤ b) : Keep lo hi w w' := fun k _ hk => h.block k (by omega)
theorem keep_under {lo hi a b : Nat} {w w' : World} (h : Within a b w w') (hb : hi ≤ a) : Keep lo hi w w' := fun k _ hk => h.below.block k (by omega)
theorem keep_over {lo hi a b : Nat} {w w' : World} (h : Within a b w w') (hb : b ≤ lo) (hs : hi ≤ w.heap.size) : Keep lo hi w w' := fun k h1 h2 => h.above k (by omega) (by omega)
/-- Block b holds these cells. -/
def Blk (W : World) (b : Nat) (cs : Array Value) (t : TypeId) : Prop := W.heap[b]? = some (.cells cs t (0, 0))
namespace Blk
variable {W W' : World} {b r : Nat} {cs : Array Value} {t : TypeId}
theorem lt (h : Blk W b cs t) : b < W.heap.size := (Array.getElem?_eq_some_iff.1 h).1
theorem cell (h : Blk W b cs t) {j : Nat} {v : Value} (hj : cs[j]? = some v) : W.cell? ⟨b, j, none⟩ = some v := by simp only [World.cell?, show W.heap[b]? = _ from h]; exact hj
theorem frozen (h : Blk W b cs t) (j : Nat) : W.frozen? ⟨b, j, none⟩ = false := by simp only [World.frozen?, show W.heap[b]? = _ from h]; rfl
theorem old (h : Blk W b cs t) (k : Below W.heap.size W W') : Blk W' b cs t := (k.block b h.lt).trans h
theorem alloc (h : Blk W b cs t) (o : Obj) : Blk (W.alloc o) b cs t := (Below.heap_alloc _ _ _ h.lt).trans h
theorem new {c : Array Value} (hb : b = W.heap.size) : Blk (W.alloc (.cells c t)) b c t := by subst hb; show (W.heap.push _)[W.heap.size]? = _; simp
theorem drew (h : Blk W b cs t) : Blk W.drew b cs t := h
theorem setOther (h : Blk W b cs t) {p : Addr} (hp : b ≠ p.block) (u : Value) : Blk (W.setCell p u) b cs t := (Below.heap_setCell _ _ _ _ hp).trans h
theorem set (h : Blk W b cs t) (j : Nat) (v : Value) {c2 : Array Value} (hc : cs.setIfInBounds j v = c2) : Blk (W.setCell ⟨b, j, none⟩ v) b c2 t := by
  subst hc
  unfold Blk at h ⊢
  simp [World.setCell, Array.getElem?_modify, h]
end Blk
theorem Blk.drewN {W : World} {b : Nat} {cs : Array Value} {t : TypeId} (h : Blk W b cs t) (q : Nat) : Blk (W.drewN q) b cs t := h
theorem below_new {B : Nat} {w W : World} (h : Below B w W) (o : Obj) (hB : B ≤ w.heap.size := by exact Nat.le_refl _) : Below B w (W.alloc o) := h.alloc (Nat.le_trans hB h.size) o
theorem kold {X W : World} (h : Below X.heap.size X W) {p : Addr} {v : Value} (hv : X.cell? p = some v) : W.cell? p = some v := by rw [h.cell (World.block_lt_of_cell? _ _ hv)]; exact hv
theorem box_step {B : Nat} {X a b : World} (h : Below B X a) (k : Below a.heap.size a b) (hB : B ≤ X.heap.size) : Below B X b := h.trans (k.mono (Nat.le_trans hB h.size))
theorem olds {X W : World} (h : Below X.heap.size X W) : (∀ k j, k < X.heap.size → W.cell? ⟨k, j, none⟩ = X.cell? ⟨k, j, none⟩) ∧ (∀ k j, k < X.heap.size → W.frozen? ⟨k, j, none⟩ = X.frozen? ⟨k, j, none⟩) ∧ (∀ k, k < X.heap.size → k < W.heap.size) :=
  ⟨fun k j hk => h.cell (p := ⟨k, j, none⟩) hk, fun k j hk => h.frozen (p := ⟨k, j, none⟩) hk, fun k hk => Nat.lt_of_lt_of_le hk h.size⟩
theorem newOld {W W' : World} {c : Array Value} {t : TypeId} (h : Below (W.alloc (.cells c t)).heap.size (W.alloc (.cells c t)) W') : Blk W' W.heap.size c t := (Blk.new rfl).old h
theorem Mat.wide {lo hi lo' hi' : Nat} {w : World} {m : Lie} {n : Nat} {L : Nat → Nat} {F : Rm.Mx} (h : Mat lo hi w m n L F) (h1 : lo' ≤ lo) (h2 : hi ≤ hi') : Mat lo' hi' w m n L F :=
  ⟨h.top, h.row, Nat.le_trans h1 h.blo, Nat.lt_of_lt_of_le h.bhi h2, fun i hi => Nat.le_trans h1 (h.rlo i hi), fun i hi => Nat.lt_of_lt_of_le (h.rhi i hi) h2, h.apart⟩
end Go.Proofs.Ytclnmikneomccaa
