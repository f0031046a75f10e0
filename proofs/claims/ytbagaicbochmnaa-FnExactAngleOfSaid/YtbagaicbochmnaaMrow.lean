/- Memory that holds rows of numbers of several floats each: what is read, what is owned. Plain laws on worlds. -/
import Derived.Test.YtbagaicbochmnaaZn
import Derived.Deep.OwnRows
namespace Go.Proofs.Ytbagaicbochmnaa
open Go.RowKit Fl
theorem idx_inj {m i j k l : Nat} (hj : j < m) (hl : l < m) (h : i * m + j = k * m + l) : i = k ∧ j = l := by
  have e1 : (i * m + j) / m = i := by rw [Nat.mul_comm, Nat.mul_add_div (by omega), Nat.div_eq_of_lt hj]; omega
  have e2 : (k * m + l) / m = k := by rw [Nat.mul_comm, Nat.mul_add_div (by omega), Nat.div_eq_of_lt hl]; omega
  rw [h, e2] at e1
  subst e1
  exact ⟨rfl, by omega⟩
theorem idx_lt {m i j n : Nat} (hj : j < m) (hi : i < n) : i * m + j < n * m := by
  have := Nat.mul_le_mul_right m (show i + 1 ≤ n by omega)
  rw [Nat.add_mul] at this
  omega
/-- v is a slice of n numbers of m floats, to be read. -/
def RdM (w : World) (v : Value) (n m : Nat) (f : Nat → Nat → Nat) : Prop :=
  (∃ ao cap, v = .slice ao 0 cap ∧ n = 0) ∨ ∃ b off cap, v = .slice (some ⟨b, off, none⟩) n cap ∧ ∀ i, i < n → ∀ j, j < m → w.cell? ⟨b, off + i * m + j, none⟩ = some (.float .f64 (f i j))
theorem RdM.later {w w' : World} {v : Value} {n m : Nat} {f : Nat → Nat → Nat} (h : RdM w v n m f) (hb : Below w.heap.size w w') : RdM w' v n m f := by
  rcases h with h | ⟨b, off, cap, rfl, h⟩
  · exact Or.inl h
  · exact Or.inr ⟨b, off, cap, rfl, fun i hi j hj => (hb.cell (World.block_lt_of_cell? _ _ (h i hi j hj))).trans (h i hi j hj)⟩
theorem RdM.form {w : World} {v : Value} {n m : Nat} {f : Nat → Nat → Nat} (h : RdM w v n m f) : ∃ ao cap, v = .slice ao n cap := by
  rcases h with ⟨ao, cap, rfl, rfl⟩ | ⟨b, off, cap, rfl, _⟩
  · exact ⟨ao, cap, rfl⟩
  · exact ⟨_, cap, rfl⟩
/-- Block b is a row of n numbers of m floats, none frozen. -/
def SegM (w : World) (b : Nat) (t : TypeId) (n m : Nat) (f : Nat → Nat → Nat) : Prop :=
  ∃ c : Array Value, w.heap[b]? = some (.cells c t (0, 0)) ∧ ∀ i, i < n → ∀ j, j < m → c[i * m + j]? = some (.float .f64 (f i j))
namespace SegM
variable {w : World} {b : Nat} {t : TypeId} {n m : Nat} {f g : Nat → Nat → Nat}
theorem cell (h : SegM w b t n m f) {i j : Nat} (hi : i < n) (hj : j < m) : w.cell? ⟨b, i * m + j, none⟩ = some (.float .f64 (f i j)) := by
  obtain ⟨c, hb, hc⟩ := h
  simp [World.cell?, hb, hc i hi j hj]
theorem frozen (h : SegM w b t n m f) (i : Nat) : w.frozen? ⟨b, i, none⟩ = false := by
  obtain ⟨c, hb, _⟩ := h
  simp [World.frozen?, hb]
theorem lt (h : SegM w b t n m f) : b < w.heap.size := by
  obtain ⟨c, hb, _⟩ := h
  exact (Array.getElem?_eq_some_iff.1 hb).1
theorem congr (h : SegM w b t n m f) (e : ∀ i, i < n → ∀ j, j < m → f i j = g i j) : SegM w b t n m g := by
  obtain ⟨c, hb, hc⟩ := h
  exact ⟨c, hb, fun i hi j hj => by rw [hc i hi j hj, e i hi j hj]⟩
theorem of_block {w' : World} (h : SegM w b t n m f) (e : w'.heap[b]? = w.heap[b]?) : SegM w' b t n m f := by
  obtain ⟨c, hb, hc⟩ := h
  exact ⟨c, e.trans hb, hc⟩
theorem below {w' : World} (h : SegM w b t n m f) (hb : Below w.heap.size w w') : SegM w' b t n m f := h.of_block (hb.block _ h.lt)
theorem set (h : SegM w b t n m f) {k l : Nat} (hk : k < n) (hl : l < m) (x : Nat) : SegM (w.setCell ⟨b, k * m + l, none⟩ (.float .f64 x)) b t n m (fun i j => if i = k ∧ j = l then x else f i j) := by
  obtain ⟨c, hb, hc⟩ := h
  refine ⟨c.setIfInBounds (k * m + l) (.float .f64 x), ?_, fun i hi j hj => ?_⟩
  · simp [World.setCell, Array.getElem?_modify, hb]
  · have hs : k * m + l < c.size := (Array.getElem?_eq_some_iff.1 (hc k hk l hl)).1
    rw [Array.getElem?_setIfInBounds]
    by_cases e : i = k ∧ j = l
    · obtain ⟨rfl, rfl⟩ := e
      simp [hs]
    · rw [if_neg (fun h => e (by have := idx_inj hl hj h; exact ⟨this.1.symm, this.2.symm⟩))]
      simp only [e, if_false]
      exact hc i hi j hj
end SegM
theorem made_cell {z : Array Value} {N k : Nat} (hk : k < N) : (madeCells z N)[k]? = some z[k % z.size]! := by
  unfold madeCells
  rw [Array.getElem?_map, Array.getElem?_range]
  simp [hk]
end Go.Proofs.Ytbagaicbochmnaa
