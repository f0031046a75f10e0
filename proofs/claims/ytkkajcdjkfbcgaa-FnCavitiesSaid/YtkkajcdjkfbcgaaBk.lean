/- Blocks and cells that stay, behind calls that keep all, or all but a flag. -/
import Derived.Test.YtkkajcdjkfbcgaaSp
import Derived.Deep.DeepCutAuto
namespace Go.Proofs.Ytkkajcdjkfbcgaa
open Go.RowKit
set_option linter.unusedVariables false
/-- Block b holds these cells. -/
def Blk (W : World) (b : Nat) (cs : Array Value) (t : TypeId) : Prop := W.heap[b]? = some (.cells cs t (0, 0))
namespace Blk
variable {W W' : World} {b r : Nat} {cs : Array Value} {t : TypeId}
theorem lt (h : Blk W b cs t) : b < W.heap.size := (Array.getElem?_eq_some_iff.1 h).1
theorem cell (h : Blk W b cs t) {j : Nat} {v : Value} (hj : cs[j]? = some v) : W.cell? ⟨b, j, none⟩ = some v := by simp only [World.cell?, show W.heap[b]? = _ from h]; exact hj
theorem frozen (h : Blk W b cs t) (j : Nat) : W.frozen? ⟨b, j, none⟩ = false := by simp only [World.frozen?, show W.heap[b]? = _ from h]; rfl
theorem old (h : Blk W b cs t) (k : Below W.heap.size W W') : Blk W' b cs t := (k.block b h.lt).trans h
theorem but (h : Blk W b cs t) (k : But r W.heap.size W W') (hr : b ≠ r) : Blk W' b cs t := (k.block b h.lt hr).trans h
theorem alloc (h : Blk W b cs t) (o : Obj) : Blk (W.alloc o) b cs t := (Below.heap_alloc _ _ _ h.lt).trans h
theorem new {c : Array Value} (hb : b = W.heap.size) : Blk (W.alloc (.cells c t)) b c t := by subst hb; show (W.heap.push _)[W.heap.size]? = _; simp
theorem setOther (h : Blk W b cs t) {p : Addr} (hp : b ≠ p.block) (u : Value) : Blk (W.setCell p u) b cs t := (Below.heap_setCell _ _ _ _ hp).trans h
end Blk
theorem kold {X W : World} (h : Below X.heap.size X W) {p : Addr} {v : Value} (hv : X.cell? p = some v) : W.cell? p = some v := by rw [h.cell (World.block_lt_of_cell? _ _ hv)]; exact hv
theorem kbut {r : Nat} {X W : World} (h : But r X.heap.size X W) {p : Addr} {v : Value} (hv : X.cell? p = some v) (hr : p.block ≠ r) : W.cell? p = some v := by rw [h.cell (World.block_lt_of_cell? _ _ hv) hr]; exact hv
/-- Old cells and marks, behind a call of the reckoning. -/
theorem oldsB {r : Nat} {X W : World} (h : But r X.heap.size X W) : (∀ k j, k < X.heap.size → k ≠ r → W.cell? ⟨k, j, none⟩ = X.cell? ⟨k, j, none⟩) ∧ (∀ k j, k < X.heap.size → k ≠ r → W.frozen? ⟨k, j, none⟩ = X.frozen? ⟨k, j, none⟩) ∧ (∀ k, k < X.heap.size → k < W.heap.size) :=
  ⟨fun k j hk hr => h.cell (p := ⟨k, j, none⟩) hk hr, fun k j hk hr => h.frozen (p := ⟨k, j, none⟩) hk hr, fun _ hk => Nat.lt_of_lt_of_le hk h.size⟩
theorem olds' {X W : World} (h : Below X.heap.size X W) : (∀ k j, k < X.heap.size → W.cell? ⟨k, j, none⟩ = X.cell? ⟨k, j, none⟩) ∧ (∀ k j, k < X.heap.size → W.frozen? ⟨k, j, none⟩ = X.frozen? ⟨k, j, none⟩) ∧ (∀ k, k < X.heap.size → k < W.heap.size) :=
  ⟨fun k j hk => h.cell (p := ⟨k, j, none⟩) hk, fun k j hk => h.frozen (p := ⟨k, j, none⟩) hk, fun _ hk => Nat.lt_of_lt_of_le hk h.size⟩
/-- Four fractions: a system. -/
structure Mx where
  A : Q
  B : Q
  C : Q
  D : Q
def Mx.ok (m : Mx) : Bool := m.A.ok && m.B.ok && m.C.ok && m.D.ok
def sel (c : Int) (x : Q) : Q := if c = 0 then x else zQ
end Go.Proofs.Ytkkajcdjkfbcgaa
