/- Stacks of plates over residues: ModStack of both packages: contracts. -/
import Derived.Test.YtigkfngbiicfaaaBo
import Derived.Test.YtigkfngbiicfaaaIv
namespace Go.Proofs.Ytigkfngbiicfaaa
open Go.RowKit
set_option linter.unusedVariables false
namespace Wv
/-- The product of two plates. -/
def mulP (P Q : Nat → Int) : Nat → Int
  | 0 => Rm.addM (Rm.mulM (P 0) (Q 0)) (Rm.mulM (P 1) (Q 2))
  | 1 => Rm.addM (Rm.mulM (P 0) (Q 1)) (Rm.mulM (P 1) (Q 3))
  | 2 => Rm.addM (Rm.mulM (P 2) (Q 0)) (Rm.mulM (P 3) (Q 2))
  | _ => Rm.addM (Rm.mulM (P 2) (Q 1)) (Rm.mulM (P 3) (Q 3))
/-- The product of the first k. -/
def stk (G : Nat → Nat → Int) : Nat → Nat → Int
  | 0 => fun j => if j = 0 then 1 else if j = 3 then 1 else 0
  | k + 1 => mulP (stk G k) (G k)
end Wv
/-- Block b holds a plate. -/
def Pk (b : Nat) (W : World) (P : Nat → Int) : Prop := W.heap[b]? = some (.cells #[.int .i64 (P 0), .int .i64 (P 1), .int .i64 (P 2), .int .i64 (P 3)] 34 (0, 0))
theorem Pk.lt {b : Nat} {W : World} {P : Nat → Int} (h : Pk b W P) : b < W.heap.size := (Array.getElem?_eq_some_iff.1 h).1
theorem Pk.c0 {b : Nat} {W : World} {P : Nat → Int} (h : Pk b W P) : W.cell? ⟨b, 0, none⟩ = some (.int .i64 (P 0)) := by unfold Pk at h; simp [World.cell?, h]
theorem Pk.c1 {b : Nat} {W : World} {P : Nat → Int} (h : Pk b W P) : W.cell? ⟨b, 1, none⟩ = some (.int .i64 (P 1)) := by unfold Pk at h; simp [World.cell?, h]
theorem Pk.c2 {b : Nat} {W : World} {P : Nat → Int} (h : Pk b W P) : W.cell? ⟨b, 2, none⟩ = some (.int .i64 (P 2)) := by unfold Pk at h; simp [World.cell?, h]
theorem Pk.c3 {b : Nat} {W : World} {P : Nat → Int} (h : Pk b W P) : W.cell? ⟨b, 3, none⟩ = some (.int .i64 (P 3)) := by unfold Pk at h; simp [World.cell?, h]
theorem Pk.fz {b : Nat} {W : World} {P : Nat → Int} (h : Pk b W P) (j : Nat) : W.frozen? ⟨b, j, none⟩ = false := by unfold Pk at h; simp [World.frozen?, h]
theorem Pk.later {b : Nat} {W W' : World} {P : Nat → Int} (h : Pk b W P) (hb : Below W.heap.size W W') : Pk b W' P := (hb.block _ h.lt).trans h
theorem Pk.set {b : Nat} {W : World} {P Q : Nat → Int} (h : Pk b W P) : Pk b ((((W.setCell ⟨b, 0, none⟩ (.int .i64 (Q 0))).setCell ⟨b, 1, none⟩ (.int .i64 (Q 1))).setCell ⟨b, 2, none⟩ (.int .i64 (Q 2))).setCell ⟨b, 3, none⟩ (.int .i64 (Q 3))) Q := by
  unfold Pk at h ⊢
  simp [World.setCell, Array.getElem?_modify, h]
theorem Pk.setOther {b : Nat} {W : World} {P : Nat → Int} (h : Pk b W P) {p : Addr} (hp : b ≠ p.block) (u : Value) : Pk b (W.setCell p u) P := (Below.heap_setCell _ _ _ _ hp).trans h
set_option maxHeartbeats 4000000 in
theorem iMulP_any (P Q : Nat → Int) (w : World) : Calls Try.prog 61 #[.agg #[.int .i64 (P 0), .int .i64 (P 1), .int .i64 (P 2), .int .i64 (P 3)], .agg #[.int .i64 (Q 0), .int .i64 (Q 1), .int .i64 (Q 2), .int .i64 (Q 3)]] w fun e w' => e = .returned (Mv (Wv.mulP P Q)) ∧ Below w.heap.size w w' := by
  go_enter Try.func61, Try.ntmps61
  go_upto_region 1 with fail
  obtain ⟨X, hX⟩ : ∃ X, X = ((w.alloc (.cells #[.int .i64 (P 0), .int .i64 (P 1), .int .i64 (P 2), .int .i64 (P 3)] 34)).alloc (.cells #[.int .i64 (Q 0), .int .i64 (Q 1), .int .i64 (Q 2), .int .i64 (Q 3)] 34)).alloc (.cells #[.int .i64 0, .int .i64 0, .int .i64 0, .int .i64 0] 34) := ⟨_, rfl⟩
  rw [← hX]
  have p1 : Pk w.heap.size X P := by rw [hX]; exact (Below.heap_alloc _ _ _ (by simp; omega)).trans (heap_alloc2_old _ _ _)
  have p2 : Pk (w.heap.size + 1) X Q := by rw [hX]; exact (Below.heap_alloc _ _ _ (by simp)).trans (heap_alloc2_new _ _ _)
  have p3 : Pk (w.heap.size + 1 + 1) X (fun _ => 0) := by
    rw [hX]
    have := heap_alloc_new ((w.alloc (.cells #[.int .i64 (P 0), .int .i64 (P 1), .int .i64 (P 2), .int .i64 (P 3)] 34)).alloc (.cells #[.int .i64 (Q 0), .int .i64 (Q 1), .int .i64 (Q 2), .int .i64 (Q 3)] 34)) (.cells #[.int .i64 0, .int .i64 0, .int .i64 0, .int .i64 0] 34)
    simpa [Pk] using this
  have a0 : ∀ W, Below (w.heap.size + 1 + 1) X W → W.cell? ⟨w.heap.size, 0, none⟩ = some (.int .i64 (P 0)) := fun W h => (h.cell (by show w.heap.size < w.heap.size + 1 + 1; omega)).trans p1.c0
  have a1 : ∀ W, Below (w.heap.size + 1 + 1) X W → W.cell? ⟨w.heap.size, 1, none⟩ = some (.int .i64 (P 1)) := fun W h => (h.cell (by show w.heap.size < w.heap.size + 1 + 1; omega)).trans p1.c1
  have a2 : ∀ W, Below (w.heap.size + 1 + 1) X W → W.cell? ⟨w.heap.size, 2, none⟩ = some (.int .i64 (P 2)) := fun W h => (h.cell (by show w.heap.size < w.heap.size + 1 + 1; omega)).trans p1.c2
  have a3 : ∀ W, Below (w.heap.size + 1 + 1) X W → W.cell? ⟨w.heap.size, 3, none⟩ = some (.int .i64 (P 3)) := fun W h => (h.cell (by show w.heap.size < w.heap.size + 1 + 1; omega)).trans p1.c3
  have b0 : ∀ W, Below (w.heap.size + 1 + 1) X W → W.cell? ⟨w.heap.size + 1, 0, none⟩ = some (.int .i64 (Q 0)) := fun W h => (h.cell (by show w.heap.size + 1 < w.heap.size + 1 + 1; omega)).trans p2.c0
  have b1 : ∀ W, Below (w.heap.size + 1 + 1) X W → W.cell? ⟨w.heap.size + 1, 1, none⟩ = some (.int .i64 (Q 1)) := fun W h => (h.cell (by show w.heap.size + 1 < w.heap.size + 1 + 1; omega)).trans p2.c1
  have b2 : ∀ W, Below (w.heap.size + 1 + 1) X W → W.cell? ⟨w.heap.size + 1, 2, none⟩ = some (.int .i64 (Q 2)) := fun W h => (h.cell (by show w.heap.size + 1 < w.heap.size + 1 + 1; omega)).trans p2.c2
  have b3 : ∀ W, Below (w.heap.size + 1 + 1) X W → W.cell? ⟨w.heap.size + 1, 3, none⟩ = some (.int .i64 (Q 3)) := fun W h => (h.cell (by show w.heap.size + 1 < w.heap.size + 1 + 1; omega)).trans p2.c3
  have d0 := p3.c0
  have d1 := p3.c1
  have d2 := p3.c2
  have d3 := p3.c3
  have f0 := p3.fz 0
  have f1 := p3.fz 1
  have f2 := p3.fz 2
  have f3 := p3.fz 3
  have BL : Hid (Below w.heap.size w X ∧ Pk (w.heap.size + 1 + 1) X (fun _ => 0)) := by
    refine ⟨?_, p3⟩
    rw [hX]
    exact (((Below.refl _ _).alloc (Nat.le_refl _) _).alloc (by simp) _).alloc (by simp; omega) _
  have hB0 : Below (w.heap.size + 1 + 1) X X := Below.refl _ _
  clear hX p1 p2 p3
  go_region_held3 (fun W => Below (w.heap.size + 1 + 1) X W) (go_grown) (first | (go_at_call 67; refine (iTwo_any _ _ _ _ _).mono ?_; rintro e w1 ⟨rfl, rfl⟩))
  clear a0 a1 a2 a3 b0 b1 b2 b3 hB0
  go_wp2
  refine bodyPost_ret (v := Mv (Wv.mulP P Q)) (by simp [results, Try.results61, go_sem, d0, d1, d2, d3, Wv.mulP, Mv]) rfl ⟨rfl, ?_⟩
  have := BL.out.1
  go_grown
end Go.Proofs.Ytigkfngbiicfaaa
