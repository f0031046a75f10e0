/- The drawing of one float out of bytes: a contract. -/
import Derived.Test.YtkkajcdjkfbcgaaDraw
namespace Go.Proofs.Ytkkajcdjkfbcgaa
open Go.RowKit
set_option linter.unusedVariables false
theorem Src.alloc {w0 w : World} {v : Value} {a : Int} {p : Nat} (h : Src w0 w v a p) (o : Obj) : Src w0 (w.alloc o) v a p := by
  have hp := World.block_lt_of_cell? _ _ h.code
  have hs := h.below.size
  refine ⟨h.below.alloc hs o, h.new, ?_, ?_, ?_⟩
  · rw [← h.code]; simp only [World.cell?]; rw [Below.heap_alloc _ _ _ hp]
  · rw [← h.here]; simp only [World.cell?]; rw [Below.heap_alloc _ _ _ hp]
  · rw [← h.free]; simp only [World.frozen?]; rw [Below.heap_alloc _ _ _ hp]
theorem Src.next {w0 w : World} {v : Value} {a : Int} {p : Nat} (h : Src w0 w v a p) (q : Nat) : Src w0 ((w.setCell ⟨p, 1, none⟩ (.int .i64 (a + 1))).drewN q) v (a + 1) p := by
  refine ⟨below_drewN (h.below.setCell h.new _) _, h.new, ?_, ?_, ?_⟩
  · rw [World.cell?_drewN, World.cell?_setCell_other _ _ _ _ (by intro k; have : 1 = 0 := congrArg Addr.off k; omega)]; exact h.code
  · rw [World.cell?_drewN, World.cell?_setCell_same _ _ _ h.here]
  · have := h.free
    simpa using this
theorem RdB.cells {w0 w : World} {b off n : Nat} {g : Nat → Int} (hb : Below w0.heap.size w0 w) (h : ∀ i, i < n → w0.cell? ⟨b, off + i, none⟩ = some (.int .u8 (g i))) (i : Nat) (hi : i < n) : w.cell? ⟨b, off + i, none⟩ = some (.int .u8 (g i)) :=
  (hb.cell (World.block_lt_of_cell? _ _ (h i hi))).trans (h i hi)
theorem next_any {w0 w : World} {v : Value} {n : Nat} {g : Nat → Int} {a N : Int} {p : Nat} (hS : Src w0 w v a p) (hB : RdB w0 v n g) (hg : ∀ i, i < n → 0 ≤ g i ∧ g i ≤ 255) (hn : n ≤ 1000000000000) (ha : 0 ≤ a) (ha2 : a ≤ 1000) (hN : 1 ≤ N) (hN2 : N ≤ 4294967296) :
    Calls Try.prog 54 #[.pointer (some ⟨p, 0, none⟩), .int .i64 N] w fun e w' => ∃ r : Int, e = .returned (.int .i64 r) ∧ 0 ≤ r ∧ r < N ∧ Src w0 w' v (a + 1) p ∧ ∀ b, b ≠ p → w'.heap[b]? = w.heap[b]? := by
  have fin : ∀ (e : Ending) (w' : World), (∃ r : Int, e = .returned (.int .i64 r) ∧ 0 ≤ r ∧ r < N ∧ ∃ q, w' = (w.setCell ⟨p, 1, none⟩ (.int .i64 (a + 1))).drewN q) → ∃ r : Int, e = .returned (.int .i64 r) ∧ 0 ≤ r ∧ r < N ∧ Src w0 w' v (a + 1) p ∧ ∀ b, b ≠ p → w'.heap[b]? = w.heap[b]? := by
    rintro e w' ⟨r, rfl, h1, h2, q, rfl⟩
    exact ⟨r, rfl, h1, h2, hS.next q, fun b hb => Below.heap_setCell _ _ _ _ hb⟩
  rcases hB with ⟨ao, cap, rfl, rfl⟩ | ⟨b, off, cap, rfl, hc⟩
  · exact (next_none ao cap p a N w ha ha2 hN hN2 hS.code hS.here hS.free).mono fin
  · by_cases h0 : n = 0
    · subst h0
      exact (next_none _ cap p a N w ha ha2 hN hN2 hS.code hS.here hS.free).mono fin
    · obtain ⟨i, hi, hr⟩ := rem_nat (n := n) ha (by omega)
      obtain ⟨q, q0, q1, hq⟩ := quo_nat (n := n) ha (by omega)
      have hx := RdB.cells hS.below hc i hi
      have hb : b ≠ p := by
        have h1 : b < w0.heap.size := World.block_lt_of_cell? _ _ (hc i hi)
        have := hS.new
        omega
      by_cases hs : N ≤ 200
      · exact (next_short b off n cap p a N (g i) q i w ha ha2 hN hs (by omega) hn hi hr hq q0 q1 (hg i hi).1 (hg i hi).2 hS.code hS.here hS.free hx hb).mono fin
      · obtain ⟨j, hj, hr2⟩ := rem_nat (a := a + 1) (n := n) (by omega) (by omega)
        have hy := RdB.cells hS.below hc j hj
        exact (next_long b off n cap p a N (g i) (g j) q i j w ha ha2 (by omega) hN2 (by omega) hn hi hj hr hr2 hq q0 q1 (hg i hi).1 (hg i hi).2 (hg j hj).1 (hg j hj).2 hS.code hS.here hS.free hx hy hb).mono fin
/-- What a source gives next, at whatever world. -/
def Nexts (w0 : World) (v : Value) (p : Nat) : Prop := ∀ (w : World) (a N : Int), Src w0 w v a p → 0 ≤ a → a ≤ 1000 → 1 ≤ N → N ≤ 4294967296 →
  Calls Try.prog 54 #[.pointer (some ⟨p, 0, none⟩), .int .i64 N] w fun e w' => ∃ r : Int, e = .returned (.int .i64 r) ∧ 0 ≤ r ∧ r < N ∧ Src w0 w' v (a + 1) p ∧ ∀ b, b ≠ p → w'.heap[b]? = w.heap[b]?
end Go.Proofs.Ytkkajcdjkfbcgaa
