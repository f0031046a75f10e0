/- Lights, plates and their four numbers, plainly; blocks that stay; a result's own block beside all that was. -/
import Derived.Test.YtloebnlmeplgbaaMem
import Derived.Deep.RegionHeld3
import Derived.Deep.DeepCutAuto
import Derived.Laws.Tables
namespace Go.Proofs.Ytloebnlmeplgbaa
open Go.RowKit
set_option linter.unusedVariables false
/-- A complex whole number. -/
structure Gz where
  re : Int
  im : Int
/-- A light. -/
structure Jn where
  x : Gz
  y : Gz
/-- A plate. -/
structure Pl where
  a : Gz
  b : Gz
  c : Gz
  d : Gz
/-- A light's four numbers. -/
structure Sk where
  i : Int
  q : Int
  u : Int
  v : Int
/-- Block b holds these cells. -/
def Blk (W : World) (b : Nat) (cs : Array Value) (t : TypeId) : Prop := W.heap[b]? = some (.cells cs t (0, 0))
namespace Blk
variable {W W' : World} {b r : Nat} {cs : Array Value} {t : TypeId}
theorem lt (h : Blk W b cs t) : b < W.heap.size := (Array.getElem?_eq_some_iff.1 h).1
theorem cell (h : Blk W b cs t) {j : Nat} {v : Value} (hj : cs[j]? = some v) : W.cell? ⟨b, j, none⟩ = some v := by simp only [World.cell?, show W.heap[b]? = _ from h]; exact hj
theorem frozen (h : Blk W b cs t) (j : Nat) : W.frozen? ⟨b, j, none⟩ = false := by simp only [World.frozen?, show W.heap[b]? = _ from h]; rfl
theorem old (h : Blk W b cs t) (k : Below W.heap.size W W') : Blk W' b cs t := (k.block b h.lt).trans h
theorem alloc (h : Blk W b cs t) (o : Obj) : Blk (W.alloc o) b cs t := (Below.heap_alloc _ _ _ h.lt).trans h
theorem new {c : Array Value} (hb : b = W.heap.size) : Blk (W.alloc (.cells c t)) b c t := by subst hb; show (W.heap.push _)[W.heap.size]? = _; simp
theorem drew (h : Blk W b cs t) : Blk W.drew b cs t := h
theorem setOther (h : Blk W b cs t) {p : Addr} (hp : b ≠ p.block) (u : Value) : Blk (W.setCell p u) b cs t := (Below.heap_setCell _ _ _ _ hp).trans h
theorem set (h : Blk W b cs t) (j : Nat) (v : Value) {c2 : Array Value} (hc : cs.setIfInBounds j v = c2) : Blk (W.setCell ⟨b, j, none⟩ v) b c2 t := by
  subst hc
  unfold Blk at h ⊢
  simp [World.setCell, Array.getElem?_modify, h]
end Blk
theorem below_drewN {B : Nat} {a w : World} (h : Below B a w) (q : Nat) : Below B a (w.drewN q) := ⟨h.os, h.tape, h.output, h.size, h.block⟩
theorem Blk.drewN {W : World} {b : Nat} {cs : Array Value} {t : TypeId} (h : Blk W b cs t) (q : Nat) : Blk (W.drewN q) b cs t := h
theorem below_new {B : Nat} {w W : World} (h : Below B w W) (o : Obj) (hB : B ≤ w.heap.size := by exact Nat.le_refl _) : Below B w (W.alloc o) := h.alloc (Nat.le_trans hB h.size) o
theorem kold {X W : World} (h : Below X.heap.size X W) {p : Addr} {v : Value} (hv : X.cell? p = some v) : W.cell? p = some v := by rw [h.cell (World.block_lt_of_cell? _ _ hv)]; exact hv
theorem box_step {B : Nat} {X a b : World} (h : Below B X a) (k : Below a.heap.size a b) (hB : B ≤ X.heap.size) : Below B X b := h.trans (k.mono (Nat.le_trans hB h.size))
theorem olds {X W : World} (h : Below X.heap.size X W) : (∀ k j, k < X.heap.size → W.cell? ⟨k, j, none⟩ = X.cell? ⟨k, j, none⟩) ∧ (∀ k j, k < X.heap.size → W.frozen? ⟨k, j, none⟩ = X.frozen? ⟨k, j, none⟩) ∧ (∀ k, k < X.heap.size → k < W.heap.size) :=
  ⟨fun k j hk => h.cell (p := ⟨k, j, none⟩) hk, fun k j hk => h.frozen (p := ⟨k, j, none⟩) hk, fun k hk => Nat.lt_of_lt_of_le hk h.size⟩
theorem newOld {W W' : World} {c : Array Value} {t : TypeId} (h : Below (W.alloc (.cells c t)).heap.size (W.alloc (.cells c t)) W') : Blk W' W.heap.size c t := (Blk.new rfl).old h
/-- All that was in X is as it was but block r, which has n cells of type t, none frozen. -/
structure Bt (r n : Nat) (t : TypeId) (X W : World) : Prop where
  low : Below r X W
  keep : ∀ k, k < X.heap.size → k ≠ r → W.heap[k]? = X.heap[k]?
  block : ∃ c : Array Value, W.heap[r]? = some (.cells c t (0, 0)) ∧ c.size = n
/-- What a cell holds. -/
def got (W : World) (r j : Nat) : Value := (W.cell? ⟨r, j, none⟩).getD undef
namespace Bt
variable {r n : Nat} {t : TypeId} {X W : World}
theorem lt (h : Bt r n t X W) : r < W.heap.size := by
  obtain ⟨c, hb, _⟩ := h.block
  exact (Array.getElem?_eq_some_iff.1 hb).1
theorem start {cs : Array Value} (h : Blk X r cs t) : Bt r cs.size t X X := ⟨Below.refl _ _, fun _ _ _ => rfl, cs, h, rfl⟩
theorem cell (h : Bt r n t X W) {j : Nat} (hj : j < n) : W.cell? ⟨r, j, none⟩ = some (got W r j) := by
  obtain ⟨c, hb, hs⟩ := h.block
  have : W.cell? ⟨r, j, none⟩ = some (c[j]'(by omega)) := by simp [World.cell?, hb, Array.getElem?_eq_getElem (show j < c.size by omega)]
  unfold got
  rw [this]; rfl
theorem frozen (h : Bt r n t X W) (j : Nat) : W.frozen? ⟨r, j, none⟩ = false := by
  obtain ⟨c, hb, _⟩ := h.block
  simp [World.frozen?, hb]
theorem old (h : Bt r n t X W) {b : Nat} {cs : Array Value} {t' : TypeId} (hb : Blk X b cs t') (hne : b ≠ r) : Blk W b cs t' := (h.keep b hb.lt hne).trans hb
theorem drew (h : Bt r n t X W) : Bt r n t X W.drew := ⟨h.low.drew, h.keep, h.block⟩
theorem drewN (h : Bt r n t X W) (q : Nat) : Bt r n t X (W.drewN q) := ⟨below_drewN h.low q, h.keep, h.block⟩
theorem call (h : Bt r n t X W) {W' : World} (k : Below W.heap.size W W') : Bt r n t X W' := by
  refine ⟨h.low.trans (k.mono (Nat.le_of_lt h.lt)), fun j hj hne => ?_, ?_⟩
  · rw [k.block j (Nat.lt_of_lt_of_le hj h.low.size)]; exact h.keep j hj hne
  · rw [k.block _ h.lt]; exact h.block
theorem alloc (h : Bt r n t X W) (o : Obj) : Bt r n t X (W.alloc o) := h.call ((Below.refl _ _).alloc (Nat.le_refl _) _)
theorem set (h : Bt r n t X W) (j : Nat) (v : Value) : Bt r n t X (W.setCell ⟨r, j, none⟩ v) := by
  refine ⟨h.low.setCell (Nat.le_refl _) v, fun k hk hne => (Below.heap_setCell _ _ _ _ (by simpa using hne)).trans (h.keep k hk hne), ?_⟩
  obtain ⟨c, hb, hs⟩ := h.block
  exact ⟨c.setIfInBounds j v, by simp [World.setCell, Array.getElem?_modify, hb], by simpa using hs⟩
theorem out (h : Bt r n t X W) {w : World} (k : Below w.heap.size w X) (hr : w.heap.size ≤ r) : Below w.heap.size w W := k.trans (h.low.mono hr)
end Bt
end Go.Proofs.Ytloebnlmeplgbaa
