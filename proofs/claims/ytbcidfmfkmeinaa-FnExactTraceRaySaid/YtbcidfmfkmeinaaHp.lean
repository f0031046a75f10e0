/- Where a ray meets a face, plainly, by classes of floats; a region that stores into the result. -/
import Derived.Test.YtbcidfmfkmeinaaSp
import Derived.Test.YtbcidfmfkmeinaaRh
namespace Go.Proofs.Ytbcidfmfkmeinaa
open Go.RowKit Fl
set_option linter.unusedVariables false
def posC (A : Nat → Option Nat) (len : Option Nat) : Nat → Option Nat :=
  r6 (opC .add (A 0) (opC .mul len (A 3))) (opC .add (A 1) (opC .mul len (A 4))) (opC .add (A 2) (opC .mul len (A 5))) (A 3) (A 4) (A 5)
def nrmW (p q : Option Nat) : Option Nat := sqO (opC .add (sqr p q) oneO)
def nrmC (p q : Option Nat) : Nat → Option Nat := r6 zO zO zO (opC .quo (negO p) (nrmW p q)) (opC .quo (negO q) (nrmW p q)) (opC .quo oneO (nrmW p q))
abbrev nearO : Option Nat := some 4427486594234968593
theorem fc_near : Fc 4427486594234968593 nearO := ⟨by decide, by decide⟩
def slopeC (c x un : Option Nat) : Option Nat := opC .quo (opC .mul c x) un
def fallC (A : Nat → Option Nat) (p q : Option Nat) : Option Nat := opC .sub (A 5) (opC .add (opC .mul (A 3) p) (opC .mul (A 4) q))
structure Hit where
  steps : Int
  len : Option Nat
  pt : Nat → Option Nat
  nr : Nat → Option Nat
def hitC (G A : Nat → Option Nat) : Nat → Int → Option Nat → Option Hit
  | 0, _, _ => none
  | fuel + 1, step, len =>
    match sagC (G 0) (G 1) (sqr (posC A len 0) (posC A len 1)) with
    | none => none
    | some s =>
      if gtO (absC (opC .sub s.1 (posC A len 2))) nearO then
        if gtO (fallC A (slopeC (G 0) (posC A len 0) s.2) (slopeC (G 0) (posC A len 1) s.2)) zO then
          hitC G A fuel (step + 1) (opC .add len (opC .quo (opC .sub s.1 (posC A len 2)) (fallC A (slopeC (G 0) (posC A len 0) s.2) (slopeC (G 0) (posC A len 1) s.2))))
        else none
      else some ⟨step, len, posC A len, nrmC (slopeC (G 0) (posC A len 0) s.2) (slopeC (G 0) (posC A len 1) s.2)⟩
def meetC (G A : Nat → Option Nat) : Option Hit := if gtO (A 5) zO then hitC G A 20 0 (opC .quo (negO (A 2)) (A 5)) else none
abbrev Mv (c s : Int) (l : Nat) (a b : Nat → Nat) : Value := .agg #[.int .i64 c, .int .i64 s, .float .f64 l, .float .f64 (a 0), .float .f64 (a 1), .float .f64 (a 2), .float .f64 (a 3), .float .f64 (a 4), .float .f64 (a 5), .float .f64 (b 0), .float .f64 (b 1), .float .f64 (b 2), .float .f64 (b 3), .float .f64 (b 4), .float .f64 (b 5)]
def hNone : Hit := ⟨0, zO, fun _ => zO, fun _ => zO⟩
def hOf (o : Option Hit) : Hit := o.getD hNone
structure Hc (l : Nat) (a b : Nat → Nat) (h : Hit) : Prop where
  l : Fc l h.len
  a : Rc a h.pt
  b : Rc b h.nr
def MV (fn : FuncId) (args : Array Value) (w : World) (o : Option Hit) : Prop :=
  Calls Try.prog fn args w fun e w' => ∃ l a b, e = .returned (Mv (codeOf o) (hOf o).steps l a b) ∧ Hc l a b (hOf o) ∧ Below w.heap.size w w'
theorem rc_zero : Rc (fun _ => 0) (fun _ => zO) := ⟨fun _ _ => fc_zero⟩
theorem hc_none : Hc 0 (fun _ => 0) (fun _ => 0) hNone := ⟨fc_zero, rc_zero, rc_zero⟩
theorem hit_zero (G A : Nat → Option Nat) (s : Int) (l : Option Nat) : hitC G A 0 s l = none := rfl
theorem hit_none {G A : Nat → Option Nat} {f : Nat} {s : Int} {l : Option Nat} (h : sagC (G 0) (G 1) (sqr (posC A l 0) (posC A l 1)) = none) : hitC G A (f + 1) s l = none := by
  unfold hitC; rw [h]
theorem hit_end {G A : Nat → Option Nat} {f : Nat} {s : Int} {l : Option Nat} {g : Option Nat × Option Nat} (h : sagC (G 0) (G 1) (sqr (posC A l 0) (posC A l 1)) = some g)
    (h1 : gtO (absC (opC .sub g.1 (posC A l 2))) nearO = false) : hitC G A (f + 1) s l = some ⟨s, l, posC A l, nrmC (slopeC (G 0) (posC A l 0) g.2) (slopeC (G 0) (posC A l 1) g.2)⟩ := by
  unfold hitC; rw [h]; simp only []; rw [if_neg (by rw [h1]; simp)]
theorem hit_lost {G A : Nat → Option Nat} {f : Nat} {s : Int} {l : Option Nat} {g : Option Nat × Option Nat} (h : sagC (G 0) (G 1) (sqr (posC A l 0) (posC A l 1)) = some g)
    (h1 : gtO (absC (opC .sub g.1 (posC A l 2))) nearO = true) (h2 : gtO (fallC A (slopeC (G 0) (posC A l 0) g.2) (slopeC (G 0) (posC A l 1) g.2)) zO = false) : hitC G A (f + 1) s l = none := by
  unfold hitC; rw [h]; simp only []; rw [if_pos h1, if_neg (by rw [h2]; simp)]
theorem hit_on {G A : Nat → Option Nat} {f : Nat} {s : Int} {l : Option Nat} {g : Option Nat × Option Nat} (h : sagC (G 0) (G 1) (sqr (posC A l 0) (posC A l 1)) = some g)
    (h1 : gtO (absC (opC .sub g.1 (posC A l 2))) nearO = true) (h2 : gtO (fallC A (slopeC (G 0) (posC A l 0) g.2) (slopeC (G 0) (posC A l 1) g.2)) zO = true) :
    hitC G A (f + 1) s l = hitC G A f (s + 1) (opC .add l (opC .quo (opC .sub g.1 (posC A l 2)) (fallC A (slopeC (G 0) (posC A l 0) g.2) (slopeC (G 0) (posC A l 1) g.2)))) := by
  conv => lhs; unfold hitC
  rw [h]; simp only []; rw [if_pos h1, if_pos h2]
/-- All that lay in v but block r is as it was; r is a block of n cells. -/
structure Ex (v : World) (r n : Nat) (t : TypeId) (W : World) : Prop where
  size : v.heap.size ≤ W.heap.size
  same : ∀ b, b < v.heap.size → b ≠ r → W.heap[b]? = v.heap[b]?
  res : ∃ c : Array Value, W.heap[r]? = some (.cells c t (0, 0)) ∧ c.size = n
  lt : r < v.heap.size
  bel : Below r v W
namespace Ex
variable {v W : World} {r n : Nat} {t : TypeId}
theorem refl {c : Array Value} (h : Blk v r c t) (hc : c.size = n) : Ex v r n t v := ⟨Nat.le_refl _, fun _ _ _ => rfl, ⟨c, h, hc⟩, h.lt, Below.refl _ _⟩
theorem drew (h : Ex v r n t W) : Ex v r n t W.drew := ⟨h.size, h.same, h.res, h.lt, h.bel.drew⟩
theorem call (h : Ex v r n t W) {W' : World} (k : Below W.heap.size W W') : Ex v r n t W' := by
  refine ⟨Nat.le_trans h.size k.size, fun b hb hr => ?_, ?_, h.lt, h.bel.trans (k.mono (by have := h.size; have := h.lt; omega))⟩
  · rw [k.block b (Nat.lt_of_lt_of_le hb h.size)]; exact h.same b hb hr
  · obtain ⟨c, hc, hs⟩ := h.res
    exact ⟨c, by rw [k.block r (Array.getElem?_eq_some_iff.1 hc).1]; exact hc, hs⟩
theorem drewN (h : Ex v r n t W) (q : Nat) : Ex v r n t (W.drewN q) := h.call (below_drewN (Below.refl _ _) q)
theorem alloc (h : Ex v r n t W) (o : Obj) : Ex v r n t (W.alloc o) := h.call ((Below.refl _ _).alloc (Nat.le_refl _) o)
theorem set (h : Ex v r n t W) (j : Nat) (u : Value) : Ex v r n t (W.setCell ⟨r, j, none⟩ u) := by
  refine ⟨by simpa using h.size, fun b hb hr => ?_, ?_, h.lt, h.bel.setCell (Nat.le_refl _) u⟩
  · rw [Below.heap_setCell _ _ _ _ (by simpa using hr)]; exact h.same b hb hr
  · obtain ⟨c, hc, hs⟩ := h.res
    exact ⟨c.setIfInBounds j u, by simp [World.setCell, Array.getElem?_modify, hc], by simpa using hs⟩
theorem old (h : Ex v r n t W) {b j : Nat} {c : Array Value} {t' : TypeId} {x : Value} (hb : Blk v b c t') (hr : b ≠ r) (hj : c[j]? = some x) : W.cell? ⟨b, j, none⟩ = some x :=
  Blk.cell (W := W) (b := b) (cs := c) (t := t') (by unfold Blk; rw [h.same b hb.lt hr]; exact hb) hj
theorem kept (h : Ex v r n t W) {b : Nat} {c : Array Value} {t' : TypeId} (hb : Blk v b c t') (hr : b ≠ r) : Blk W b c t' := by unfold Blk; rw [h.same b hb.lt hr]; exact hb
theorem cell (h : Ex v r n t W) {j : Nat} (hj : j < n) : W.cell? ⟨r, j, none⟩ = some (got W r j) := by
  obtain ⟨c, hb, hs⟩ := h.res
  have : W.cell? ⟨r, j, none⟩ = some (c[j]'(by omega)) := by simp [World.cell?, hb, Array.getElem?_eq_getElem (show j < c.size by omega)]
  unfold got
  rw [this]; rfl
theorem frozen (h : Ex v r n t W) (j : Nat) : W.frozen? ⟨r, j, none⟩ = false := by
  obtain ⟨c, hb, _⟩ := h.res
  simp [World.frozen?, hb]
theorem out (h : Ex v r n t W) {w : World} (k : Below w.heap.size w v) (hr : w.heap.size ≤ r) : Below w.heap.size w W := k.trans (h.bel.mono hr)
end Ex
end Go.Proofs.Ytbcidfmfkmeinaa
