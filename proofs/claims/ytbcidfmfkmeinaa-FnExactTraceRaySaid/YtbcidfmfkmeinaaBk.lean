/- Blocks that stay behind calls, draws, stores and new blocks; a float's operation by letters. -/
import Derived.Test.YtbcidfmfkmeinaaRy
import Derived.Deep.DeepCutAuto
namespace Go.Proofs.Ytbcidfmfkmeinaa
open Go.RowKit Fl
set_option linter.unusedVariables false
/-- Block b holds these cells. -/
def Blk (W : World) (b : Nat) (cs : Array Value) (t : TypeId) : Prop := W.heap[b]? = some (.cells cs t (0, 0))
namespace Blk
variable {W W' : World} {b r : Nat} {cs : Array Value} {t : TypeId}
theorem lt (h : Blk W b cs t) : b < W.heap.size := (Array.getElem?_eq_some_iff.1 h).1
theorem cell (h : Blk W b cs t) {j : Nat} {v : Value} (hj : cs[j]? = some v) : W.cell? ⟨b, j, none⟩ = some v := by simp only [World.cell?, show W.heap[b]? = _ from h]; exact hj
theorem frozen (h : Blk W b cs t) (j : Nat) : W.frozen? ⟨b, j, none⟩ = false := by simp only [World.frozen?, show W.heap[b]? = _ from h]; rfl
theorem old (h : Blk W b cs t) (k : Below W.heap.size W W') : Blk W' b cs t := (k.block b h.lt).trans h
theorem alloc (h : Blk W b cs t) (o : Obj) : Blk (W.alloc o) b cs t := (Below.heap_alloc _ _ _ h.lt).trans h
theorem new {c : Array Value} (hb : b = W.heap.size) : Blk (W.alloc (.cells c t)) b c t := by subst hb; show (W.heap.push _)[W.heap.size]? = _; simp
theorem drew (h : Blk W b cs t) : Blk W.drew b cs t := h
theorem drewN (h : Blk W b cs t) (q : Nat) : Blk (W.drewN q) b cs t := (below_drewN (Below.refl W.heap.size W) q).block b h.lt |>.trans h
theorem setOther (h : Blk W b cs t) {p : Addr} (hp : b ≠ p.block) (u : Value) : Blk (W.setCell p u) b cs t := (Below.heap_setCell _ _ _ _ hp).trans h
theorem set (h : Blk W b cs t) (j : Nat) (v : Value) {c2 : Array Value} (hc : cs.setIfInBounds j v = c2) : Blk (W.setCell ⟨b, j, none⟩ v) b c2 t := by
  subst hc
  unfold Blk at h ⊢
  simp [World.setCell, Array.getElem?_modify, h]
end Blk
theorem below_new {B : Nat} {w W : World} (h : Below B w W) (o : Obj) (hB : B ≤ w.heap.size := by exact Nat.le_refl _) : Below B w (W.alloc o) := h.alloc (Nat.le_trans hB h.size) o
theorem drewN_opW (op : BinOp) (x y : Nat) (w : World) : ∃ q, opW op x y w = w.drewN q := opW_drewN op x y w
theorem flop (op : BinOp) (hop : op = .add ∨ op = .sub ∨ op = .mul ∨ op = .quo) {x y : Nat} {o p : Option Nat} (h : Fc x o) (k : Fc y p) (w : World) :
    ∃ v q, (∀ t, (binOp op t (.float .f64 x) (.float .f64 y)).run Try.prog w = .ok (.float .f64 v) (w.drewN q)) ∧ Fc v (opC op o p) := by
  obtain ⟨q, hq⟩ := opW_drewN op x y w
  exact ⟨_, q, fun t => by rw [run_float w op t x y hop, hq], fc_op op h k w⟩
end Go.Proofs.Ytbcidfmfkmeinaa
