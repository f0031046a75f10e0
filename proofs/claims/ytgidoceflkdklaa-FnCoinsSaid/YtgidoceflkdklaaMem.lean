/- Memory that holds rows of floats: a stretch of a block, slices of floats that are read. Plain laws on worlds. -/
import Derived.Test.YtgidoceflkdklaaZn
import Derived.Deep.OwnRows
namespace Go.Proofs.Ytgidoceflkdklaa
open Go.RowKit Fl

/-- Block b is of type t, none of its cells frozen, and from cell 'off' on it holds n values f. -/
def Seg (w : World) (b : Nat) (t : TypeId) (off n : Nat) (f : Nat → Value) : Prop :=
  ∃ c : Array Value, w.heap[b]? = some (.cells c t (0, 0)) ∧ ∀ i, i < n → c[off + i]? = some (f i)
namespace Seg
variable {w : World} {b : Nat} {t : TypeId} {off n : Nat} {f g : Nat → Value}
theorem cell (h : Seg w b t off n f) {i : Nat} (hi : i < n) : w.cell? ⟨b, off + i, none⟩ = some (f i) := by
  obtain ⟨c, hb, hc⟩ := h
  simp [World.cell?, hb, hc i hi]
theorem frozen (h : Seg w b t off n f) (i : Nat) : w.frozen? ⟨b, i, none⟩ = false := by
  obtain ⟨c, hb, _⟩ := h
  simp [World.frozen?, hb]
theorem lt (h : Seg w b t off n f) : b < w.heap.size := by
  obtain ⟨c, hb, _⟩ := h
  obtain ⟨hlt, _⟩ := Array.getElem?_eq_some_iff.1 hb
  exact hlt
theorem congr (h : Seg w b t off n f) (e : ∀ i, i < n → f i = g i) : Seg w b t off n g := by
  obtain ⟨c, hb, hc⟩ := h
  exact ⟨c, hb, fun i hi => by rw [hc i hi, e i hi]⟩
theorem of_block {w' : World} (h : Seg w b t off n f) (e : w'.heap[b]? = w.heap[b]?) : Seg w' b t off n f := by
  obtain ⟨c, hb, hc⟩ := h
  exact ⟨c, e.trans hb, hc⟩
theorem set (h : Seg w b t off n f) (i : Nat) (hi : i < n) (v : Value) : Seg (w.setCell ⟨b, off + i, none⟩ v) b t off n (fun j => if j = i then v else f j) := by
  obtain ⟨c, hb, hc⟩ := h
  refine ⟨c.setIfInBounds (off + i) v, ?_, fun j hj => ?_⟩
  · simp [World.setCell, Array.getElem?_modify, hb]
  · have hs : off + i < c.size := (Array.getElem?_eq_some_iff.1 (hc i hi)).1
    rw [Array.getElem?_setIfInBounds]
    by_cases e : j = i
    · subst e
      simp [hs]
    · rw [if_neg (fun h => e (by omega))]
      show c[off + j]? = some (if j = i then v else f j)
      rw [if_neg e]
      exact hc j hj
theorem setOther (h : Seg w b t off n f) {a : Addr} (ha : b ≠ a.block) (v : Value) : Seg (w.setCell a v) b t off n f := h.of_block (Below.heap_setCell _ _ _ _ ha)
theorem alloc (h : Seg w b t off n f) (o : Obj) : Seg (w.alloc o) b t off n f := h.of_block (Below.heap_alloc _ _ _ h.lt)
theorem drew (h : Seg w b t off n f) : Seg w.drew b t off n f := h
theorem sub (h : Seg w b t off n f) (d m : Nat) (hm : d + m ≤ n) : Seg w b t (off + d) m (fun i => f (d + i)) := by
  obtain ⟨c, hb, hc⟩ := h
  exact ⟨c, hb, fun i hi => by rw [Nat.add_assoc]; exact hc (d + i) (by omega)⟩
end Seg
theorem Seg_of_row {w : World} {b : Nat} {t : TypeId} {n : Nat} {f : Nat → Value} (h : w.rowIs b t n f) : Seg w b t 0 n f := by
  obtain ⟨c, hb, _, hc⟩ := h
  exact ⟨c, hb, fun i hi => by rw [Nat.zero_add]; exact hc i hi⟩
theorem seg_made (w : World) (z : Value) (n : Nat) (t : TypeId) : Seg (w.alloc (.cells (madeCells #[z] n) t)) w.heap.size t 0 n (fun _ => z) := Seg_of_row (World.rowIs_made w z n t)
/-- Two blocks of unlike types are two. -/
theorem Seg.ne {w : World} {b b' : Nat} {t t' : TypeId} {off n off' n' : Nat} {f g : Nat → Value} (h : Seg w b t off n f) (h' : Seg w b' t' off' n' g) (ht : t ≠ t') : b ≠ b' := by
  obtain ⟨c, hb, _⟩ := h
  obtain ⟨c', hb', _⟩ := h'
  intro e
  subst e
  rw [hb] at hb'
  simp at hb'
  exact ht hb'.2


/-! ### What is only read -/

/-- v is a slice of n floats f, to be read. -/
def RdF (w : World) (v : Value) (n : Nat) (f : Nat → Nat) : Prop :=
  (∃ ao cap, v = .slice ao 0 cap ∧ n = 0) ∨ ∃ b off cap, v = .slice (some ⟨b, off, none⟩) n cap ∧ ∀ i, i < n → w.cell? ⟨b, off + i, none⟩ = some (.float .f64 (f i))
theorem RdF.later {w w' : World} {v : Value} {n : Nat} {f : Nat → Nat} (h : RdF w v n f) (hb : Below w.heap.size w w') : RdF w' v n f := by
  rcases h with h | ⟨b, off, cap, rfl, h⟩
  · exact Or.inl h
  · exact Or.inr ⟨b, off, cap, rfl, fun i hi => (hb.cell (World.block_lt_of_cell? _ _ (h i hi))).trans (h i hi)⟩
theorem RdF.congr {w : World} {v : Value} {n : Nat} {f g : Nat → Nat} (h : RdF w v n f) (e : ∀ i, i < n → f i = g i) : RdF w v n g := by
  rcases h with h | ⟨b, off, cap, rfl, h⟩
  · exact Or.inl h
  · exact Or.inr ⟨b, off, cap, rfl, fun i hi => by rw [h i hi, e i hi]⟩
theorem Seg.rd {w : World} {b : Nat} {t : TypeId} {off n cap : Nat} {f : Nat → Nat} (h : Seg w b t off n (fun i => .float .f64 (f i))) : RdF w (.slice (some ⟨b, off, none⟩) n cap) n f :=
  Or.inr ⟨b, off, cap, rfl, fun _ hi => h.cell hi⟩
theorem Seg.below {w w' : World} {b : Nat} {t : TypeId} {off n : Nat} {f : Nat → Value} (h : Seg w b t off n f) (hb : Below w.heap.size w w') : Seg w' b t off n f := h.of_block (hb.block _ h.lt)
/-- Cells that are read, behind what made new blocks alone. -/
theorem cells_later {w w' : World} {b off n : Nat} {f : Nat → Nat} (h : ∀ i, i < n → w.cell? ⟨b, off + i, none⟩ = some (.float .f64 (f i))) (hb : Below w.heap.size w w') : ∀ i, i < n → w'.cell? ⟨b, off + i, none⟩ = some (.float .f64 (f i)) :=
  fun i hi => (hb.cell (World.block_lt_of_cell? _ _ (h i hi))).trans (h i hi)
/-- Stores between lo and hi alone, and new blocks. -/
structure Within (lo hi : Nat) (w w' : World) : Prop where
  below : Below lo w w'
  above : ∀ k, hi ≤ k → k < w.heap.size → w'.heap[k]? = w.heap[k]?
theorem Within.refl (lo hi : Nat) (w : World) : Within lo hi w w := ⟨Below.refl _ _, fun _ _ _ => rfl⟩
theorem Within.trans {lo hi : Nat} {a b c : World} (h : Within lo hi a b) (k : Within lo hi b c) : Within lo hi a c :=
  ⟨h.below.trans k.below, fun i h1 h2 => (k.above i h1 (Nat.lt_of_lt_of_le h2 h.below.size)).trans (h.above i h1 h2)⟩
theorem Within.setCell {lo hi : Nat} {a w : World} (h : Within lo hi a w) {p : Addr} (h1 : lo ≤ p.block) (h2 : p.block < hi) (u : Value) : Within lo hi a (w.setCell p u) :=
  h.trans ⟨(Below.refl _ _).setCell h1 u, fun k hk _ => Below.heap_setCell _ _ _ _ (by omega)⟩
theorem Within.alloc {lo hi : Nat} {a w : World} (h : Within lo hi a w) (hl : lo ≤ w.heap.size) (o : Obj) : Within lo hi a (w.alloc o) :=
  h.trans ⟨(Below.refl _ _).alloc hl o, fun _ _ hk => Below.heap_alloc _ _ _ hk⟩
theorem Within.drew {lo hi : Nat} {a w : World} (h : Within lo hi a w) : Within lo hi a w.drew := h.trans ⟨(Below.refl _ _).drew, fun _ _ _ => rfl⟩
theorem Within.mono {lo hi lo' hi' : Nat} {a w : World} (h : Within lo hi a w) (h1 : lo' ≤ lo) (h2 : hi ≤ hi') : Within lo' hi' a w := ⟨h.below.mono h1, fun k hk hs => h.above k (by omega) hs⟩
end Go.Proofs.Ytgidoceflkdklaa
