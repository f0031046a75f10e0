/- Memory that holds rows of numbers: a stretch of a block, slices of numbers that are read, matrices that are read, matrices that own their blocks. Plain laws on worlds. -/
import Derived.Test.YtclnmikneomccaaNums
import Derived.Deep.OwnRows
namespace Go.Proofs.Ytclnmikneomccaa
open Go.RowKit

/-- Block b is of type t, none of its cells frozen, and from cell 'off' on it holds n values f. -/
def Seg (w : World) (b : Nat) (t : TypeId) (off n : Nat) (f : Nat → Value) : Prop :=
  ∃ c : Array Value, w.heap[b]? = some (.cells c t (0, 0)) ∧ ∀ i, i < n → c[off + i]? = some (f i)
namespace Seg
variable {w : World} {b : Nat} {t : TypeId} {off n : Nat} {f g : Nat → Value}
theorem cell (h : Seg w b t off n f) {i : Nat} (hi : i < n) : w.cell? ⟨b, off + i, none⟩ = some (f i) := by
  obtain ⟨c, hb, hc⟩ := h
  simp [World.cell?, hb, hc i hi]
theorem frozen (h : Seg w b t off n f) (i : Nat) : w.frozen? ⟨b, i, none⟩ = false := by
  obtain ⟨c, hb, _⟩ := h
  simp [World.frozen?, hb]
theorem lt (h : Seg w b t off n f) : b < w.heap.size := by
  obtain ⟨c, hb, _⟩ := h
  obtain ⟨hlt, _⟩ := Array.getElem?_eq_some_iff.1 hb
  exact hlt
theorem congr (h : Seg w b t off n f) (e : ∀ i, i < n → f i = g i) : Seg w b t off n g := by
  obtain ⟨c, hb, hc⟩ := h
  exact ⟨c, hb, fun i hi => by rw [hc i hi, e i hi]⟩
theorem of_block {w' : World} (h : Seg w b t off n f) (e : w'.heap[b]? = w.heap[b]?) : Seg w' b t off n f := by
  obtain ⟨c, hb, hc⟩ := h
  exact ⟨c, e.trans hb, hc⟩
theorem set (h : Seg w b t off n f) (i : Nat) (hi : i < n) (v : Value) : Seg (w.setCell ⟨b, off + i, none⟩ v) b t off n (fun j => if j = i then v else f j) := by
  obtain ⟨c, hb, hc⟩ := h
  refine ⟨c.setIfInBounds (off + i) v, ?_, fun j hj => ?_⟩
  · simp [World.setCell, Array.getElem?_modify, hb]
  · have hs : off + i < c.size := (Array.getElem?_eq_some_iff.1 (hc i hi)).1
    rw [Array.getElem?_setIfInBounds]
    by_cases e : j = i
    · subst e
      simp [hs]
    · rw [if_neg (fun h => e (by omega))]
      show c[off + j]? = some (if j = i then v else f j)
      rw [if_neg e]
      exact hc j hj
theorem setOther (h : Seg w b t off n f) {a : Addr} (ha : b ≠ a.block) (v : Value) : Seg (w.setCell a v) b t off n f := h.of_block (Below.heap_setCell _ _ _ _ ha)
theorem alloc (h : Seg w b t off n f) (o : Obj) : Seg (w.alloc o) b t off n f := h.of_block (Below.heap_alloc _ _ _ h.lt)
theorem drew (h : Seg w b t off n f) : Seg w.drew b t off n f := h
theorem sub (h : Seg w b t off n f) (d m : Nat) (hm : d + m ≤ n) : Seg w b t (off + d) m (fun i => f (d + i)) := by
  obtain ⟨c, hb, hc⟩ := h
  exact ⟨c, hb, fun i hi => by rw [Nat.add_assoc]; exact hc (d + i) (by omega)⟩
end Seg
theorem Seg_of_row {w : World} {b : Nat} {t : TypeId} {n : Nat} {f : Nat → Value} (h : w.rowIs b t n f) : Seg w b t 0 n f := by
  obtain ⟨c, hb, _, hc⟩ := h
  exact ⟨c, hb, fun i hi => by rw [Nat.zero_add]; exact hc i hi⟩
theorem seg_made (w : World) (z : Value) (n : Nat) (t : TypeId) : Seg (w.alloc (.cells (madeCells #[z] n) t)) w.heap.size t 0 n (fun _ => z) := Seg_of_row (World.rowIs_made w z n t)
/-- Two blocks of unlike types are two. -/
theorem Seg.ne {w : World} {b b' : Nat} {t t' : TypeId} {off n off' n' : Nat} {f g : Nat → Value} (h : Seg w b t off n f) (h' : Seg w b' t' off' n' g) (ht : t ≠ t') : b ≠ b' := by
  obtain ⟨c, hb, _⟩ := h
  obtain ⟨c', hb', _⟩ := h'
  intro e
  subst e
  rw [hb] at hb'
  simp at hb'
  exact ht hb'.2

/-! ### What is only read -/

/-- v is a slice of n numbers f, to be read. -/
def RdRow (w : World) (v : Value) (n : Nat) (f : Nat → Int) : Prop :=
  (∃ ao cap, v = .slice ao 0 cap ∧ n = 0) ∨ ∃ b off cap, v = .slice (some ⟨b, off, none⟩) n cap ∧ ∀ i, i < n → w.cell? ⟨b, off + i, none⟩ = some (.int .i64 (f i))
theorem RdRow.later {w w' : World} {v : Value} {n : Nat} {f : Nat → Int} (h : RdRow w v n f) (hb : Below w.heap.size w w') : RdRow w' v n f := by
  rcases h with h | ⟨b, off, cap, rfl, h⟩
  · exact Or.inl h
  · exact Or.inr ⟨b, off, cap, rfl, fun i hi => (hb.cell (World.block_lt_of_cell? _ _ (h i hi))).trans (h i hi)⟩
theorem RdRow.congr {w : World} {v : Value} {n : Nat} {f g : Nat → Int} (h : RdRow w v n f) (e : ∀ i, i < n → f i = g i) : RdRow w v n g := by
  rcases h with h | ⟨b, off, cap, rfl, h⟩
  · exact Or.inl h
  · exact Or.inr ⟨b, off, cap, rfl, fun i hi => by rw [h i hi, e i hi]⟩
theorem Seg.rd {w : World} {b : Nat} {t : TypeId} {off n cap : Nat} {f : Nat → Int} (h : Seg w b t off n (fun i => .int .i64 (f i))) : RdRow w (.slice (some ⟨b, off, none⟩) n cap) n f :=
  Or.inr ⟨b, off, cap, rfl, fun _ hi => h.cell hi⟩
theorem RdRow.nil (w : World) (f : Nat → Int) : RdRow w (.slice none 0 0) 0 f := Or.inl ⟨none, 0, rfl, rfl⟩

/-- v is a slice of n slices of numbers, row i with L i numbers, to be read. -/
def RdMat (w : World) (v : Value) (n : Nat) (L : Nat → Nat) (F : Rm.Mx) : Prop :=
  (∃ ao cap, v = .slice ao 0 cap ∧ n = 0) ∨ ∃ (b off cap : Nat) (vs : Nat → Value), v = .slice (some ⟨b, off, none⟩) n cap ∧ ∀ i, i < n → w.cell? ⟨b, off + i, none⟩ = some (vs i) ∧ RdRow w (vs i) (L i) (F i)
theorem RdMat.later {w w' : World} {v : Value} {n : Nat} {L : Nat → Nat} {F : Rm.Mx} (h : RdMat w v n L F) (hb : Below w.heap.size w w') : RdMat w' v n L F := by
  rcases h with h | ⟨b, off, cap, vs, rfl, h⟩
  · exact Or.inl h
  · exact Or.inr ⟨b, off, cap, vs, rfl, fun i hi => ⟨(hb.cell (World.block_lt_of_cell? _ _ (h i hi).1)).trans (h i hi).1, (h i hi).2.later hb⟩⟩
theorem RdMat.congr {w : World} {v : Value} {n : Nat} {L L' : Nat → Nat} {F G : Rm.Mx} (h : RdMat w v n L F) (eL : ∀ i, i < n → L i = L' i) (e : ∀ i j, i < n → j < L' i → F i j = G i j) : RdMat w v n L' G := by
  rcases h with h | ⟨b, off, cap, vs, rfl, h⟩
  · exact Or.inl h
  · exact Or.inr ⟨b, off, cap, vs, rfl, fun i hi => ⟨(h i hi).1, by have := (h i hi).2; rw [eL i hi] at this; exact this.congr fun j hj => e i j hi hj⟩⟩
theorem RdMat.nil (w : World) (L : Nat → Nat) (F : Rm.Mx) : RdMat w (.slice none 0 0) 0 L F := Or.inl ⟨none, 0, rfl, rfl⟩

/-! ### What owns its blocks -/

/-- Where a matrix lies: its own block, and each row's. -/
structure Lie where
  b : Nat
  cap : Nat
  bs : Nat → Nat
  os : Nat → Nat
  cs : Nat → Nat
def Lie.val (m : Lie) (n : Nat) : Value := .slice (some ⟨m.b, 0, none⟩) n m.cap
def Lie.row (m : Lie) (L : Nat → Nat) (i : Nat) : Value := .slice (some ⟨m.bs i, m.os i, none⟩) (L i) (m.cs i)
/-- A matrix in blocks from lo on, below hi, a block a row and no two rows in one block. -/
structure Mat (lo hi : Nat) (w : World) (m : Lie) (n : Nat) (L : Nat → Nat) (F : Rm.Mx) : Prop where
  top : Seg w m.b 29 0 n (m.row L)
  row : ∀ i, i < n → Seg w (m.bs i) 2 (m.os i) (L i) (fun j => .int .i64 (F i j))
  blo : lo ≤ m.b
  bhi : m.b < hi
  rlo : ∀ i, i < n → lo ≤ m.bs i
  rhi : ∀ i, i < n → m.bs i < hi
  apart : ∀ i j, i < n → j < n → m.bs i = m.bs j → i = j
namespace Mat
variable {lo hi : Nat} {w w' : World} {m : Lie} {n : Nat} {L : Nat → Nat} {F G : Rm.Mx}
theorem rd (h : Mat lo hi w m n L F) : RdMat w (m.val n) n L F :=
  Or.inr ⟨m.b, 0, m.cap, m.row L, rfl, fun i hi => ⟨h.top.cell hi, (h.row i hi).rd⟩⟩
theorem keep (h : Mat lo hi w m n L F) (hk : ∀ k, lo ≤ k → k < hi → w'.heap[k]? = w.heap[k]?) : Mat lo hi w' m n L F :=
  ⟨h.top.of_block (hk _ h.blo h.bhi), fun i hi => (h.row i hi).of_block (hk _ (h.rlo i hi) (h.rhi i hi)), h.blo, h.bhi, h.rlo, h.rhi, h.apart⟩
theorem mono {hi' : Nat} (h : Mat lo hi w m n L F) (hh : hi ≤ hi') : Mat lo hi' w m n L F :=
  ⟨h.top, h.row, h.blo, Nat.lt_of_lt_of_le h.bhi hh, h.rlo, fun i hi => Nat.lt_of_lt_of_le (h.rhi i hi) hh, h.apart⟩
theorem congr (h : Mat lo hi w m n L F) (e : ∀ i j, i < n → j < L i → F i j = G i j) : Mat lo hi w m n L G :=
  ⟨h.top, fun i hi => (h.row i hi).congr fun j hj => by rw [e i j hi hj], h.blo, h.bhi, h.rlo, h.rhi, h.apart⟩
theorem bne (h : Mat lo hi w m n L F) {i : Nat} (hi : i < n) : m.b ≠ m.bs i := h.top.ne (h.row i hi) (by decide)
/-- A store into a row. -/
theorem set (h : Mat lo hi w m n L F) {i j : Nat} (hin : i < n) (hj : j < L i) (x : Int) :
    Mat lo hi (w.setCell ⟨m.bs i, m.os i + j, none⟩ (.int .i64 x)) m n L (fun r c => if r = i ∧ c = j then x else F r c) := by
  refine ⟨h.top.setOther (h.bne hin) _, fun r hr => ?_, h.blo, h.bhi, h.rlo, h.rhi, h.apart⟩
  by_cases e : r = i
  · subst e
    refine ((h.row r hr).set j hj _).congr fun c _ => ?_
    by_cases e' : c = j
    · simp [e']
    · simp [e']
  · refine ((h.row r hr).setOther (fun k => e (h.apart r i hr hin k)) _).congr fun c _ => ?_
    simp [e]
theorem cellTop (h : Mat lo hi w m n L F) {i : Nat} (hi : i < n) : w.cell? ⟨m.b, i, none⟩ = some (m.row L i) := by simpa using h.top.cell hi
theorem alloc (h : Mat lo hi w m n L F) (o : Obj) (hh : hi ≤ w.heap.size) : Mat lo hi (w.alloc o) m n L F := h.keep fun k _ hk => Below.heap_alloc _ _ _ (by omega)
end Mat
/-- Stores between lo and hi alone, and new blocks. -/
structure Within (lo hi : Nat) (w w' : World) : Prop where
  below : Below lo w w'
  above : ∀ k, hi ≤ k → k < w.heap.size → w'.heap[k]? = w.heap[k]?
theorem Within.refl (lo hi : Nat) (w : World) : Within lo hi w w := ⟨Below.refl _ _, fun _ _ _ => rfl⟩
theorem Within.trans {lo hi : Nat} {a b c : World} (h : Within lo hi a b) (k : Within lo hi b c) : Within lo hi a c :=
  ⟨h.below.trans k.below, fun i h1 h2 => (k.above i h1 (Nat.lt_of_lt_of_le h2 h.below.size)).trans (h.above i h1 h2)⟩
theorem Within.setCell {lo hi : Nat} {a w : World} (h : Within lo hi a w) {p : Addr} (h1 : lo ≤ p.block) (h2 : p.block < hi) (u : Value) : Within lo hi a (w.setCell p u) :=
  h.trans ⟨(Below.refl _ _).setCell h1 u, fun k hk _ => Below.heap_setCell _ _ _ _ (by omega)⟩
theorem Within.alloc {lo hi : Nat} {a w : World} (h : Within lo hi a w) (hl : lo ≤ w.heap.size) (o : Obj) : Within lo hi a (w.alloc o) :=
  h.trans ⟨(Below.refl _ _).alloc hl o, fun _ _ hk => Below.heap_alloc _ _ _ hk⟩
theorem Within.drew {lo hi : Nat} {a w : World} (h : Within lo hi a w) : Within lo hi a w.drew := h.trans ⟨(Below.refl _ _).drew, fun _ _ _ => rfl⟩
theorem Within.mono {lo hi lo' hi' : Nat} {a w : World} (h : Within lo hi a w) (h1 : lo' ≤ lo) (h2 : hi ≤ hi') : Within lo' hi' a w := ⟨h.below.mono h1, fun k hk hs => h.above k (by omega) hs⟩
end Go.Proofs.Ytclnmikneomccaa
