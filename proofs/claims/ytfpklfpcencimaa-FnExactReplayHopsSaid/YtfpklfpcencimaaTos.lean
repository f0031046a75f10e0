/- The laws' own copies of slices of numbers: contracts. -/
import Derived.Test.YtfpklfpcencimaaMem
namespace Go.Proofs.Ytfpklfpcencimaa
open Go.RowKit
theorem info2 : (Try.prog.info? 2).map (fun i => (i.zero, i.size, i.bytes)) = some (some (.int .i64 0), 1, 8) := by kernel_rfl
theorem info38 : (Try.prog.info? 43).map (fun i => (i.zero, i.size, i.bytes)) = some (some (.slice none 0 0), 1, 24) := by kernel_rfl

/-- Where a new matrix of n rows lies. -/
def newLie (B n : Nat) (L : Nat → Nat) : Lie := { b := B, cap := n, bs := fun i => B + 1 + i, os := fun _ => 0, cs := L }
theorem newLie_row (B n : Nat) (L : Nat → Nat) (i : Nat) : (newLie B n L).row L i = .slice (some ⟨B + 1 + i, 0, none⟩) (L i) (L i) := rfl
/-- A new matrix, k of its n rows laid. -/
structure Laying (B : Nat) (w : World) (n k : Nat) (L : Nat → Nat) (F : Rm.Mx) : Prop where
  top : Seg w B 43 0 n (fun i => if i < k then (newLie B n L).row L i else .slice none 0 0)
  row : ∀ i, i < k → Seg w (B + 1 + i) 2 0 (L i) (fun j => .int .i64 (F i j))
  size : w.heap.size = B + 1 + k
theorem laying_start (w : World) (n : Nat) (L : Nat → Nat) (F : Rm.Mx) : Laying w.heap.size (w.alloc (.cells (madeCells #[.slice none 0 0] n) 43)) n 0 L F :=
  ⟨(seg_made w _ n 43).congr (fun j _ => by simp), fun i hi => absurd hi (Nat.not_lt_zero _), by simp⟩
theorem Laying.step {B : Nat} {w w' : World} {n k : Nat} {L : Nat → Nat} {F : Rm.Mx} (h : Laying B w n k L F) (hk : k < n) (hb : Below w.heap.size w w') (hs : w'.heap.size = w.heap.size + 1)
    (hr : Seg w' w.heap.size 2 0 (L k) (fun j => .int .i64 (F k j))) :
    Laying B (w'.setCell ⟨B, k, none⟩ (.slice (some ⟨B + 1 + k, 0, none⟩) (L k) (L k))) n (k + 1) L F := by
  have hz := h.size
  have ht : Seg w' B 43 0 n (fun i => if i < k then (newLie B n L).row L i else .slice none 0 0) := h.top.of_block (hb.block _ (by omega))
  refine ⟨?_, fun i hi => ?_, by simp only [World.size_setCell]; omega⟩
  · have := ht.set k hk (.slice (some ⟨B + 1 + k, 0, none⟩) (L k) (L k))
    rw [Nat.zero_add] at this
    refine this.congr fun j _ => ?_
    by_cases e : j = k
    · subst e; simp [newLie_row]
    · by_cases e2 : j < k
      · simp [e, e2, Nat.lt_succ_of_lt e2]
      · simp [e, e2]; intro h; omega
  · refine Seg.setOther ?_ (by show B + 1 + i ≠ B; omega) _
    by_cases e : i = k
    · subst e; rw [hz] at hr; exact hr
    · exact (h.row i (by omega)).of_block (hb.block _ (by omega))
theorem Laying.mat {B : Nat} {w : World} {n : Nat} {L : Nat → Nat} {F : Rm.Mx} (h : Laying B w n n L F) : Mat B w.heap.size w (newLie B n L) n L F :=
  ⟨h.top.congr fun i hi => by simp [hi], h.row, Nat.le_refl _, by have := h.size; simp only [newLie]; omega, fun i _ => by simp only [newLie]; omega, fun i hi => by have := h.size; simp only [newLie]; omega, fun i j _ _ e => by simp only [newLie] at e; omega⟩
end Go.Proofs.Ytfpklfpcencimaa
