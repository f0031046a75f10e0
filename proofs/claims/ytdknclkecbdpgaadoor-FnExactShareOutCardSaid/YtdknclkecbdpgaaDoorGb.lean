/- Lists of numbers in memory: read, copied, compared, marked, owned, grown; blocks. -/
import Derived.Test.YtdknclkecbdpgaaDoorProg
import Derived.WalkKit
import Derived.WalkSpells
import Derived.WalkLawsBesides
import Derived.Outline
import Derived.RegionTactic
import Derived.Deep.QuietTactic
import Derived.Deep.RegionWith
import Derived.BigQuiet
import Derived.BigRegion
import Derived.WalkSmall
import Derived.Handy
import Derived.Below
import Derived.Deep.OwnRows
import Derived.Deep.RegionHeld3
import Derived.Deep.DeepCutAuto
import Derived.Deep.Draws
import Derived.OwnWalk
import Derived.Laws.AppendOwn
import Derived.Laws.CopyOwn
import Derived.Laws.Rows
import Derived.Laws.Tables
import Derived.Deep.AppendLies
namespace Go.Proofs.YtdknclkecbdpgaaDoor
open Go.RowKit
set_option linter.unusedVariables false
set_option linter.unusedSimpArgs false
theorem ret_bool {a b : Bool} (h : a = b) : Ending.returned (.bool a) = .returned (.bool b) := by rw [h]
theorem boxes {w : World} {a b c d : Value} {t s : TypeId} {W : World} (h : Below (w.heap.size + 2) ((w.alloc (.cells #[a, b] t)).alloc (.cells #[c, d] s)) W) :
    W.cell? ⟨w.heap.size, 0, none⟩ = some a ∧ W.cell? ⟨w.heap.size, 1, none⟩ = some b ∧ W.cell? ⟨w.heap.size + 1, 0, none⟩ = some c ∧ W.cell? ⟨w.heap.size + 1, 1, none⟩ = some d := by
  have c0 := h.cell (p := ⟨w.heap.size, 0, none⟩) (by simp)
  have c1 := h.cell (p := ⟨w.heap.size, 1, none⟩) (by simp)
  have c2 := h.cell (p := ⟨w.heap.size + 1, 0, none⟩) (by simp)
  have c3 := h.cell (p := ⟨w.heap.size + 1, 1, none⟩) (by simp)
  simp at c0 c1 c2 c3
  exact ⟨c0, c1, c2, c3⟩
/-- Old cells and marks, behind a call. -/
theorem olds {X W : World} (h : Below X.heap.size X W) : (∀ k j, k < X.heap.size → W.cell? ⟨k, j, none⟩ = X.cell? ⟨k, j, none⟩) ∧ (∀ k j, k < X.heap.size → W.frozen? ⟨k, j, none⟩ = X.frozen? ⟨k, j, none⟩) ∧ (∀ k, k < X.heap.size → k < W.heap.size) :=
  ⟨fun k j hk => h.cell (p := ⟨k, j, none⟩) hk, fun k j hk => h.frozen (p := ⟨k, j, none⟩) hk, fun _ hk => Nat.lt_of_lt_of_le hk h.size⟩
theorem old_cell {X W : World} (h : Below X.heap.size X W) {p : Addr} {v : Value} (hp : p.block < X.heap.size) (hv : X.cell? p = some v) : W.cell? p = some v := by rw [h.cell hp]; exact hv
theorem box_step {B : Nat} {X a b : World} (h : Below B X a) (k : Below a.heap.size a b) (hB : B ≤ X.heap.size) : Below B X b := h.trans (k.mono (Nat.le_trans hB h.size))
theorem below_of_alloc {w : World} {o : Obj} {W : World} (h : W = w.alloc o) : Below w.heap.size w W := by subst h; exact (Below.refl _ _).alloc (Nat.le_refl _) _
theorem box2 {w w1 : World} {a b : Value} {t : TypeId} (h : Below (w.heap.size + 1) (w.alloc (.cells #[a, b] t)) w1) : w1.cell? ⟨w.heap.size, 0, none⟩ = some a ∧ w1.cell? ⟨w.heap.size, 1, none⟩ = some b := by
  have c0 := h.cell (p := ⟨w.heap.size, 0, none⟩) (by simp)
  have c1 := h.cell (p := ⟨w.heap.size, 1, none⟩) (by simp)
  simp at c0 c1
  exact ⟨c0, c1⟩
theorem box_out {w : World} {o : Obj} {w1 : World} (h : Below (w.heap.size + 1) (w.alloc o) w1) : Below w.heap.size w w1 := (below_of_alloc rfl).trans (h.mono (by omega))
/-- Block b is of type t, none of its cells frozen, and from cell 'off' on it holds n values f. -/
def Seg (w : World) (b : Nat) (t : TypeId) (off n : Nat) (f : Nat → Value) : Prop :=
  ∃ c : Array Value, w.heap[b]? = some (.cells c t (0, 0)) ∧ ∀ i, i < n → c[off + i]? = some (f i)
namespace Seg
variable {w : World} {b : Nat} {t : TypeId} {off n : Nat} {f g : Nat → Value}
theorem cell (h : Seg w b t off n f) {i : Nat} (hi : i < n) : w.cell? ⟨b, off + i, none⟩ = some (f i) := by
  obtain ⟨c, hb, hc⟩ := h
  simp [World.cell?, hb, hc i hi]
theorem frozen (h : Seg w b t off n f) (i : Nat) : w.frozen? ⟨b, i, none⟩ = false := by
  obtain ⟨c, hb, _⟩ := h
  simp [World.frozen?, hb]
theorem lt (h : Seg w b t off n f) : b < w.heap.size := by
  obtain ⟨c, hb, _⟩ := h
  obtain ⟨hlt, _⟩ := Array.getElem?_eq_some_iff.1 hb
  exact hlt
theorem congr (h : Seg w b t off n f) (e : ∀ i, i < n → f i = g i) : Seg w b t off n g := by
  obtain ⟨c, hb, hc⟩ := h
  exact ⟨c, hb, fun i hi => by rw [hc i hi, e i hi]⟩
theorem of_block {w' : World} (h : Seg w b t off n f) (e : w'.heap[b]? = w.heap[b]?) : Seg w' b t off n f := by
  obtain ⟨c, hb, hc⟩ := h
  exact ⟨c, e.trans hb, hc⟩
theorem set (h : Seg w b t off n f) (i : Nat) (hi : i < n) (v : Value) : Seg (w.setCell ⟨b, off + i, none⟩ v) b t off n (fun j => if j = i then v else f j) := by
  obtain ⟨c, hb, hc⟩ := h
  refine ⟨c.setIfInBounds (off + i) v, ?_, fun j hj => ?_⟩
  · simp [World.setCell, Array.getElem?_modify, hb]
  · have hs : off + i < c.size := (Array.getElem?_eq_some_iff.1 (hc i hi)).1
    rw [Array.getElem?_setIfInBounds]
    by_cases e : j = i
    · subst e
      simp [hs]
    · rw [if_neg (fun h => e (by omega))]
      show c[off + j]? = some (if j = i then v else f j)
      rw [if_neg e]
      exact hc j hj
theorem setOther (h : Seg w b t off n f) {a : Addr} (ha : b ≠ a.block) (v : Value) : Seg (w.setCell a v) b t off n f := h.of_block (Below.heap_setCell _ _ _ _ ha)
theorem alloc (h : Seg w b t off n f) (o : Obj) : Seg (w.alloc o) b t off n f := h.of_block (Below.heap_alloc _ _ _ h.lt)
theorem drew (h : Seg w b t off n f) : Seg w.drew b t off n f := h
theorem sub (h : Seg w b t off n f) (d m : Nat) (hm : d + m ≤ n) : Seg w b t (off + d) m (fun i => f (d + i)) := by
  obtain ⟨c, hb, hc⟩ := h
  exact ⟨c, hb, fun i hi => by rw [Nat.add_assoc]; exact hc (d + i) (by omega)⟩
end Seg
theorem Seg_of_row {w : World} {b : Nat} {t : TypeId} {n : Nat} {f : Nat → Value} (h : w.rowIs b t n f) : Seg w b t 0 n f := by
  obtain ⟨c, hb, _, hc⟩ := h
  exact ⟨c, hb, fun i hi => by rw [Nat.zero_add]; exact hc i hi⟩
theorem seg_made (w : World) (z : Value) (n : Nat) (t : TypeId) : Seg (w.alloc (.cells (madeCells #[z] n) t)) w.heap.size t 0 n (fun _ => z) := Seg_of_row (World.rowIs_made w z n t)
/-- Two blocks of unlike types are two. -/
theorem Seg.ne {w : World} {b b' : Nat} {t t' : TypeId} {off n off' n' : Nat} {f g : Nat → Value} (h : Seg w b t off n f) (h' : Seg w b' t' off' n' g) (ht : t ≠ t') : b ≠ b' := by
  obtain ⟨c, hb, _⟩ := h
  obtain ⟨c', hb', _⟩ := h'
  intro e
  subst e
  rw [hb] at hb'
  simp at hb'
  exact ht hb'.2


/-! ### What is only read -/

theorem Seg.below {w w' : World} {b : Nat} {t : TypeId} {off n : Nat} {f : Nat → Value} (h : Seg w b t off n f) (hb : Below w.heap.size w w') : Seg w' b t off n f := h.of_block (hb.block _ h.lt)
/-- Stores between lo and hi alone, and new blocks. -/
structure Within (lo hi : Nat) (w w' : World) : Prop where
  below : Below lo w w'
  above : ∀ k, hi ≤ k → k < w.heap.size → w'.heap[k]? = w.heap[k]?
theorem Within.refl (lo hi : Nat) (w : World) : Within lo hi w w := ⟨Below.refl _ _, fun _ _ _ => rfl⟩
theorem Within.trans {lo hi : Nat} {a b c : World} (h : Within lo hi a b) (k : Within lo hi b c) : Within lo hi a c :=
  ⟨h.below.trans k.below, fun i h1 h2 => (k.above i h1 (Nat.lt_of_lt_of_le h2 h.below.size)).trans (h.above i h1 h2)⟩
theorem Within.setCell {lo hi : Nat} {a w : World} (h : Within lo hi a w) {p : Addr} (h1 : lo ≤ p.block) (h2 : p.block < hi) (u : Value) : Within lo hi a (w.setCell p u) :=
  h.trans ⟨(Below.refl _ _).setCell h1 u, fun k hk _ => Below.heap_setCell _ _ _ _ (by omega)⟩
theorem Within.alloc {lo hi : Nat} {a w : World} (h : Within lo hi a w) (hl : lo ≤ w.heap.size) (o : Obj) : Within lo hi a (w.alloc o) :=
  h.trans ⟨(Below.refl _ _).alloc hl o, fun _ _ hk => Below.heap_alloc _ _ _ hk⟩
theorem Within.drew {lo hi : Nat} {a w : World} (h : Within lo hi a w) : Within lo hi a w.drew := h.trans ⟨(Below.refl _ _).drew, fun _ _ _ => rfl⟩
theorem Within.mono {lo hi lo' hi' : Nat} {a w : World} (h : Within lo hi a w) (h1 : lo' ≤ lo) (h2 : hi ≤ hi') : Within lo' hi' a w := ⟨h.below.mono h1, fun k hk hs => h.above k (by omega) hs⟩
theorem quiet_eq {P : Program} {f : FuncId} {args : Array Value} {w : World} {n : Nat} {v : Value}
    (h : Calls P f args (w.drewN n) fun e w' => e = .returned v ∧ w.drewN n = w') : Calls P f args (w.drewN n) fun e w'' => e = .returned v ∧ ∃ m, w'' = w.drewN m :=
  h.mono fun _ _ ⟨he, hm⟩ => ⟨he, n, hm.symm⟩
theorem idx_inj {m i j k l : Nat} (hj : j < m) (hl : l < m) (h : i * m + j = k * m + l) : i = k ∧ j = l := by
  have e1 : (i * m + j) / m = i := by rw [Nat.mul_comm, Nat.mul_add_div (by omega), Nat.div_eq_of_lt hj]; omega
  have e2 : (k * m + l) / m = k := by rw [Nat.mul_comm, Nat.mul_add_div (by omega), Nat.div_eq_of_lt hl]; omega
  rw [h, e2] at e1
  subst e1
  exact ⟨rfl, by omega⟩
theorem idx_lt {m i j n : Nat} (hj : j < m) (hi : i < n) : i * m + j < n * m := by
  have := Nat.mul_le_mul_right m (show i + 1 ≤ n by omega)
  rw [Nat.add_mul] at this
  omega
theorem made_cell {z : Array Value} {N k : Nat} (hk : k < N) : (madeCells z N)[k]? = some z[k % z.size]! := by
  unfold madeCells
  rw [Array.getElem?_map, Array.getElem?_range]
  simp [hk]
/-- v is a slice of n values of m cells, to be read. -/
def RdV (w : World) (v : Value) (n m : Nat) (f : Nat → Nat → Value) : Prop :=
  (∃ ao cap, v = .slice ao 0 cap ∧ n = 0) ∨ ∃ b off cap, v = .slice (some ⟨b, off, none⟩) n cap ∧ ∀ i, i < n → ∀ j, j < m → w.cell? ⟨b, off + i * m + j, none⟩ = some (f i j)
theorem RdV.later {w w' : World} {v : Value} {n m : Nat} {f : Nat → Nat → Value} (h : RdV w v n m f) (hb : Below w.heap.size w w') : RdV w' v n m f := by
  rcases h with h | ⟨b, off, cap, rfl, h⟩
  · exact Or.inl h
  · exact Or.inr ⟨b, off, cap, rfl, fun i hi j hj => (hb.cell (World.block_lt_of_cell? _ _ (h i hi j hj))).trans (h i hi j hj)⟩
theorem RdV.form {w : World} {v : Value} {n m : Nat} {f : Nat → Nat → Value} (h : RdV w v n m f) : ∃ ao cap, v = .slice ao n cap := by
  rcases h with ⟨ao, cap, rfl, rfl⟩ | ⟨b, off, cap, rfl, _⟩
  · exact ⟨ao, cap, rfl⟩
  · exact ⟨_, cap, rfl⟩
/-- Block b is a row of n values of m cells, none frozen. -/
def SegV (w : World) (b : Nat) (t : TypeId) (n m : Nat) (f : Nat → Nat → Value) : Prop :=
  ∃ c : Array Value, w.heap[b]? = some (.cells c t (0, 0)) ∧ ∀ i, i < n → ∀ j, j < m → c[i * m + j]? = some (f i j)
namespace SegV
variable {w : World} {b : Nat} {t : TypeId} {n m : Nat} {f g : Nat → Nat → Value}
theorem cell (h : SegV w b t n m f) {i j : Nat} (hi : i < n) (hj : j < m) : w.cell? ⟨b, i * m + j, none⟩ = some (f i j) := by
  obtain ⟨c, hb, hc⟩ := h
  simp [World.cell?, hb, hc i hi j hj]
theorem frozen (h : SegV w b t n m f) (i : Nat) : w.frozen? ⟨b, i, none⟩ = false := by
  obtain ⟨c, hb, _⟩ := h
  simp [World.frozen?, hb]
theorem lt (h : SegV w b t n m f) : b < w.heap.size := by
  obtain ⟨c, hb, _⟩ := h
  exact (Array.getElem?_eq_some_iff.1 hb).1
theorem congr (h : SegV w b t n m f) (e : ∀ i, i < n → ∀ j, j < m → f i j = g i j) : SegV w b t n m g := by
  obtain ⟨c, hb, hc⟩ := h
  exact ⟨c, hb, fun i hi j hj => by rw [hc i hi j hj, e i hi j hj]⟩
theorem of_block {w' : World} (h : SegV w b t n m f) (e : w'.heap[b]? = w.heap[b]?) : SegV w' b t n m f := by
  obtain ⟨c, hb, hc⟩ := h
  exact ⟨c, e.trans hb, hc⟩
theorem below {w' : World} (h : SegV w b t n m f) (hb : Below w.heap.size w w') : SegV w' b t n m f := h.of_block (hb.block _ h.lt)
theorem set (h : SegV w b t n m f) {k l : Nat} (hk : k < n) (hl : l < m) (x : Value) : SegV (w.setCell ⟨b, k * m + l, none⟩ x) b t n m (fun i j => if i = k ∧ j = l then x else f i j) := by
  obtain ⟨c, hb, hc⟩ := h
  refine ⟨c.setIfInBounds (k * m + l) x, ?_, fun i hi j hj => ?_⟩
  · simp [World.setCell, Array.getElem?_modify, hb]
  · have hs : k * m + l < c.size := (Array.getElem?_eq_some_iff.1 (hc k hk l hl)).1
    rw [Array.getElem?_setIfInBounds]
    by_cases e : i = k ∧ j = l
    · obtain ⟨rfl, rfl⟩ := e
      simp [hs]
    · rw [if_neg (fun h => e (by have := idx_inj hl hj h; exact ⟨this.1.symm, this.2.symm⟩))]
      simp only [e, if_false]
      exact hc i hi j hj
end SegV
theorem SegV.rd {w : World} {b : Nat} {t : TypeId} {n m cap : Nat} {f : Nat → Nat → Value} (h : SegV w b t n m f) : RdV w (.slice (some ⟨b, 0, none⟩) n cap) n m f :=
  Or.inr ⟨b, 0, cap, rfl, fun i hi j hj => by rw [Nat.zero_add]; exact h.cell hi hj⟩
theorem SegV.keep {w w' : World} {b B : Nat} {t : TypeId} {n m : Nat} {f : Nat → Nat → Value} (h : SegV w b t n m f) (k : Below B w w') (hb : b < B) : SegV w' b t n m f := h.of_block (k.block _ hb)
theorem RdV.keep {w w' : World} {v : Value} {B n m : Nat} {f : Nat → Nat → Value} (h : RdV w v n m f) (k : Below B w w') (hv : ∀ b off cap, v = .slice (some ⟨b, off, none⟩) n cap → b < B) : RdV w' v n m f := by
  rcases h with h | ⟨b, off, cap, rfl, h⟩
  · exact Or.inl h
  · exact Or.inr ⟨b, off, cap, rfl, fun i hi j hj => (k.cell (hv b off cap rfl)).trans (h i hi j hj)⟩
theorem SegV.setOther {w : World} {b c o : Nat} {t : TypeId} {n m : Nat} {f : Nat → Nat → Value} (h : SegV w b t n m f) (hne : b ≠ c) (x : Value) : SegV (w.setCell ⟨c, o, none⟩ x) b t n m f :=
  h.of_block (Below.heap_setCell _ _ _ _ (by simpa using hne))
theorem info_parts {e : TypeId} {z : Value} {m bytes : Nat} (h : (Tryd.prog.info? e).map (fun i => (i.zero, i.size, i.bytes)) = some (some z, m, bytes)) :
    ∃ i, Tryd.prog.info? e = some i ∧ i.zero = some z ∧ i.size = m ∧ i.bytes = bytes := by
  obtain ⟨i, hi, e⟩ := Option.map_eq_some_iff.1 h
  simp only [Prod.mk.injEq] at e
  exact ⟨i, hi, e.1, e.2.1, e.2.2⟩
theorem owns_later {w w' : World} {base n m : Nat} {t : TypeId} {v : Value} {xs : List Value} (h : w.ownsRow base t m v n xs) (hb : Below w.heap.size w w') : w'.ownsRow base t m v n xs := by
  obtain ⟨h0, h | ⟨g, cap, cur, hv, hg, hh, r⟩⟩ := h
  · exact ⟨h0, Or.inl h⟩
  · exact ⟨h0, Or.inr ⟨g, cap, cur, hv, hg, (hb.block g (Array.getElem?_eq_some_iff.1 hh).1).trans hh, r⟩⟩
theorem owns_empty (w : World) (t : TypeId) (m : Nat) : (w.alloc (.cells #[] t)).ownsRow w.heap.size t m (.slice (some ⟨w.heap.size, 0, none⟩) 0 0) 0 [] :=
  ⟨by simp, Or.inr ⟨w.heap.size, 0, #[], rfl, Nat.le_refl _, heap_alloc_new _ _, Nat.le_refl _, Nat.zero_le _, by simp, by simp⟩⟩
theorem owns_nil (w : World) (base : Nat) (t : TypeId) (m : Nat) : w.ownsRow base t m (.slice none 0 0) 0 [] := ⟨by simp, Or.inl ⟨rfl, rfl⟩⟩
theorem push_below {w w1 W : World} {base n m : Nat} {t : TypeId} {v : Value} {xs : List Value} {o : Obj} (h : w.ownsRow base t m v n xs) (hg : (w.alloc o).grownBy w1 v.ownBlock) (hb : Below base W w) (hB : base ≤ w.heap.size) : Below base W w1 :=
  (hb.alloc hB o).grown hg (by simp; omega) fun k hk => (h.lt k hk).1
theorem push_law {ops : Array Oper} {rest : List Oper} {o : Oper} {a : Act} {Q : Exit → Act → World → Prop} (hgd : o.guard = none) (s x : Operand) (t : TypeId)
    (ho : o.op = .call { callee := .builtin .append, args := #[s, x], argTypes := #[t, t] }) (e : TypeId) (z : Value) (m bytes : Nat) (ht : Tryd.prog.underlying t = some (.slice e))
    (hinfo : (Tryd.prog.info? e).map (fun i => (i.zero, i.size, i.bytes)) = some (some z, m, bytes)) (hz1 : z.cells.size = m) (hm : 0 < m) (hby : bytes ≤ 100) (w : World) (us : List Value) (hul : us.length = m) (hu : ∀ u ∈ us, u.oneCell' = true)
    (base : Nat) (v : Value) (n : Nat) (xs : List Value) (hs : a.eval s = v) (hown : w.ownsRow base e m v n xs) (c : Nat) (hx : a.eval x = .slice (some ⟨w.heap.size, 0, none⟩) 1 c) (hn : n ≤ 1000000000) (hbase : base ≤ w.heap.size)
    (h : ∀ v' w', w'.ownsRow base e m v' (n + 1) (xs ++ us) → (w.alloc (.cells us.toArray e)).grownBy w' v.ownBlock → v' ≠ .slice none 0 0 → wpList Tryd.prog ops Q rest (a.put o.dst v') w') : wpList Tryd.prog ops Q (o :: rest) a (w.alloc (.cells us.toArray e)) := by
  obtain ⟨i, h1, h2, h3, h4⟩ := info_parts hinfo
  refine wpList_append_own _ hgd s x t ho base e i z m bytes ht h1 h2 h3 h4 hz1 hm v n xs hs (hown.alloc _) ⟨w.heap.size, 0, none⟩ 1 c us hx (by omega) ?_ hu ?_ ?_ ?_ fun v' w' a1 a2 a3 => h v' w' a1 a2 ?_
  · intro j y hj
    have : (w.alloc (.cells us.toArray e)).heap[w.heap.size]? = some (.cells us.toArray e) := heap_alloc_new _ _
    have e0 : (⟨w.heap.size, 0, none⟩ : Addr).add j = ⟨w.heap.size, j, none⟩ := by
      unfold Addr.add
      split
      · rename_i h; subst h; rfl
      · simp
    rw [e0]
    unfold World.cell?
    rw [this]
    simpa using hj
  · unfold maxLen; omega
  · have : (n + 1) * bytes ≤ (n + 1) * 100 := Nat.mul_le_mul_left _ hby
    omega
  · simp; omega
  · intro e
    have := (a3.1 e).2
    omega
/-- Values of m cells each, one behind another. -/
def flat (F : Nat → List Value) (n : Nat) : List Value := (List.range n).flatMap F
theorem flat_zero (F : Nat → List Value) : flat F 0 = [] := rfl
theorem flat_succ (F : Nat → List Value) (n : Nat) : flat F (n + 1) = flat F n ++ F n := by
  unfold flat
  rw [List.range_succ, List.flatMap_append]
  simp
theorem flat_len {F : Nat → List Value} {m : Nat} (h : ∀ i, (F i).length = m) : ∀ n, (flat F n).length = n * m
  | 0 => by simp [flat_zero]
  | n + 1 => by rw [flat_succ, List.length_append, flat_len h n, h, Nat.succ_mul]
theorem flat_at {F : Nat → List Value} {m : Nat} (h : ∀ i, (F i).length = m) : ∀ {n i j : Nat}, i < n → j < m → (flat F n)[i * m + j]? = (F i)[j]?
  | 0, _, _, hi, _ => absurd hi (Nat.not_lt_zero _)
  | n + 1, i, j, hi, hj => by
    rw [flat_succ]
    by_cases e : i < n
    · rw [List.getElem?_append_left (by rw [flat_len h]; exact idx_lt hj e)]
      exact flat_at h e hj
    · obtain rfl : i = n := by omega
      rw [List.getElem?_append_right (by rw [flat_len h]; omega), flat_len h]
      congr 1
      omega
/-- What append has built, read off its block. -/
theorem owned_segV {w : World} {base n m : Nat} {t : TypeId} {v : Value} {F : Nat → List Value} {f : Nat → Nat → Value} (hF : ∀ i, (F i).length = m) (hf : ∀ i, i < n → ∀ j, j < m → (F i)[j]? = some (f i j)) (h : w.ownsRow base t m v n (flat F n)) (hv : v ≠ .slice none 0 0) :
    ∃ g cap, v = .slice (some ⟨g, 0, none⟩) n cap ∧ base ≤ g ∧ SegV w g t n m f := by
  obtain ⟨_, h | ⟨g, cap, cur, hv, hg, hh, h1, h2, h3, h4⟩⟩ := h
  · exact absurd h.1 hv
  · refine ⟨g, cap, hv, hg, cur, hh, fun i hi j hj => ?_⟩
    have hl : i * m + j < n * m := idx_lt hj hi
    rw [← hf i hi j hj, ← flat_at hF hi hj, ← h4, List.getElem?_take_of_lt hl, ← Array.getElem?_toList]
theorem owns_made (w : World) (z : Array Value) (n m : Nat) (t : TypeId) (hn : n ≤ maxLen) : (w.alloc (.cells (madeCells z (n * m)) t)).ownsRow w.heap.size t m (.slice (some ⟨w.heap.size, 0, none⟩) 0 n) 0 [] :=
  ⟨by simp, Or.inr ⟨w.heap.size, n, _, rfl, Nat.le_refl _, heap_alloc_new _ _, Nat.zero_le _, hn, by unfold madeCells; simp, by simp⟩⟩
/-- Block b holds these cells. -/
def Blk (W : World) (b : Nat) (cs : Array Value) (t : TypeId) : Prop := W.heap[b]? = some (.cells cs t (0, 0))
namespace Blk
variable {W W' : World} {b r : Nat} {cs : Array Value} {t : TypeId}
theorem lt (h : Blk W b cs t) : b < W.heap.size := (Array.getElem?_eq_some_iff.1 h).1
theorem cell (h : Blk W b cs t) {j : Nat} {v : Value} (hj : cs[j]? = some v) : W.cell? ⟨b, j, none⟩ = some v := by simp only [World.cell?, show W.heap[b]? = _ from h]; exact hj
theorem frozen (h : Blk W b cs t) (j : Nat) : W.frozen? ⟨b, j, none⟩ = false := by simp only [World.frozen?, show W.heap[b]? = _ from h]; rfl
theorem old (h : Blk W b cs t) (k : Below W.heap.size W W') : Blk W' b cs t := (k.block b h.lt).trans h
theorem alloc (h : Blk W b cs t) (o : Obj) : Blk (W.alloc o) b cs t := (Below.heap_alloc _ _ _ h.lt).trans h
theorem new {c : Array Value} (hb : b = W.heap.size) : Blk (W.alloc (.cells c t)) b c t := by subst hb; show (W.heap.push _)[W.heap.size]? = _; simp
theorem drew (h : Blk W b cs t) : Blk W.drew b cs t := h
theorem drewN (h : Blk W b cs t) (q : Nat) : Blk (W.drewN q) b cs t := (below_drewN (Below.refl W.heap.size W) q).block b h.lt |>.trans h
theorem setOther (h : Blk W b cs t) {p : Addr} (hp : b ≠ p.block) (u : Value) : Blk (W.setCell p u) b cs t := (Below.heap_setCell _ _ _ _ hp).trans h
theorem set (h : Blk W b cs t) (j : Nat) (v : Value) {c2 : Array Value} (hc : cs.setIfInBounds j v = c2) : Blk (W.setCell ⟨b, j, none⟩ v) b c2 t := by
  subst hc
  unfold Blk at h ⊢
  simp [World.setCell, Array.getElem?_modify, h]
end Blk
theorem below_new {B : Nat} {w W : World} (h : Below B w W) (o : Obj) (hB : B ≤ w.heap.size := by exact Nat.le_refl _) : Below B w (W.alloc o) := h.alloc (Nat.le_trans hB h.size) o
theorem res_blk {fn : Func} {s : Nat} {t : TypeId} (hf : fn.results = #[.cell s t]) {tmps : Array Value} {r : Nat} (hp : tmps.getD s undef = .pointer (some ⟨r, 0, none⟩)) {W : World} {cs : Array Value}
    (h : (loadVar t ⟨r, 0, none⟩).run Tryd.prog W = .ok (.agg cs) W) : (results fn tmps).run Tryd.prog W = .ok (.agg cs) W := by
  have hp2 : tmps[s]?.getD undef = .pointer (some ⟨r, 0, none⟩) := by simpa using hp
  unfold loadVar at h
  unfold results loadVar
  rw [hf]
  simp [go_sem, asAddr, hp2] at h ⊢
  rw [h]
theorem Blk.setRow {W : World} {b : Nat} {cs c2 : Array Value} {t : TypeId} (h : Blk W b cs t) : Blk (W.setRow b c2) b c2 t := setRow_heap W b cs c2 t (0, 0) h
theorem Blk.setRowOther {W : World} {b r : Nat} {cs c2 : Array Value} {t : TypeId} (h : Blk W b cs t) (hr : b ≠ r) : Blk (W.setRow r c2) b cs t := (setRow_other W r b c2 hr).trans h
/-- v is nil, or a list of n values F in a block from lo on, below hi. -/
def OwS (t : TypeId) (lo hi : Nat) (w : World) (v : Value) (n : Nat) (F : Nat → Value) : Prop :=
  (v = .slice none 0 0 ∧ n = 0) ∨ ∃ g cap, v = .slice (some ⟨g, 0, none⟩) n cap ∧ lo ≤ g ∧ g < hi ∧ Seg w g t 0 n F
namespace OwS
variable {t : TypeId} {lo hi : Nat} {w w' : World} {v : Value} {n : Nat} {F G : Nat → Value}
theorem later (h : OwS t lo hi w v n F) (b : Below w.heap.size w w') : OwS t lo hi w' v n F := by
  rcases h with h | ⟨g, cap, rfl, h1, h2, h3⟩
  · exact Or.inl h
  · exact Or.inr ⟨g, cap, rfl, h1, h2, h3.below b⟩
theorem under (h : OwS t lo hi w v n F) {a c : Nat} (b : Within a c w w') (hh : hi ≤ a ∨ c ≤ lo) : OwS t lo hi w' v n F := by
  rcases h with h | ⟨g, cap, rfl, h1, h2, h3⟩
  · exact Or.inl h
  · refine Or.inr ⟨g, cap, rfl, h1, h2, h3.of_block ?_⟩
    rcases hh with hh | hh
    · exact b.below.block g (by omega)
    · exact b.above g (by omega) h3.lt
theorem congr (h : OwS t lo hi w v n F) (e : ∀ i, i < n → F i = G i) : OwS t lo hi w v n G := by
  rcases h with h | ⟨g, cap, rfl, h1, h2, h3⟩
  · exact Or.inl h
  · exact Or.inr ⟨g, cap, rfl, h1, h2, h3.congr e⟩
theorem form (h : OwS t lo hi w v n F) : ∃ ao cap, v = .slice ao n cap := by
  rcases h with ⟨rfl, rfl⟩ | ⟨g, cap, rfl, _⟩
  · exact ⟨none, 0, rfl⟩
  · exact ⟨_, cap, rfl⟩
end OwS
theorem Within.later {lo hi : Nat} {a w w' : World} (h : Within lo hi a w) (b : Below w.heap.size w w') (hl : lo ≤ w.heap.size) : Within lo hi a w' :=
  ⟨h.below.trans (b.mono hl), fun k h1 h2 => (b.block k (Nat.lt_of_lt_of_le h2 h.below.size)).trans (h.above k h1 h2)⟩
theorem Blk.under {w w' : World} {b : Nat} {cs : Array Value} {t : TypeId} (h : Blk w b cs t) {a c : Nat} (k : Within a c w w') (hh : b < a ∨ c ≤ b) : Blk w' b cs t := by
  rcases hh with hh | hh
  · exact (k.below.block b hh).trans h
  · exact (k.above b hh h.lt).trans h
theorem Blk.later {w w' : World} {b : Nat} {cs : Array Value} {t : TypeId} (h : Blk w b cs t) (k : Below w.heap.size w w') : Blk w' b cs t := h.old k
/-- Cells read off a list that append has built. -/
theorem owned_seg {w : World} {base n : Nat} {t : TypeId} {v : Value} {xs : List Value} {F : Nat → Value} (h : w.ownsRow base t 1 v n xs) (hF : ∀ i, i < n → xs[i]? = some (F i)) : OwS t base w.heap.size w v n F := by
  obtain ⟨hl, h | ⟨g, cap, cur, hv, hg, hh, h1, h2, h3, h4⟩⟩ := h
  · exact Or.inl h
  · refine Or.inr ⟨g, cap, hv, hg, (Array.getElem?_eq_some_iff.1 hh).1, cur, hh, fun i hi => ?_⟩
    rw [← hF i hi, ← h4, Nat.zero_add, Nat.mul_one, List.getElem?_take_of_lt hi, ← Array.getElem?_toList]
/-! ### marks in lists of floats -/
theorem drew_below {P : Prop} {w w' : World} (h : P ∧ ∃ q, w' = w.drewN q) : P ∧ Below w.heap.size w w' := by
  obtain ⟨h1, q, rfl⟩ := h
  exact ⟨h1, below_drewN (Below.refl _ _) q⟩
/-- v is a slice of n values F, to be read. -/
def RdG (w : World) (v : Value) (n : Nat) (F : Nat → Value) : Prop :=
  (∃ ao cap, v = .slice ao 0 cap ∧ n = 0) ∨ ∃ b off cap, v = .slice (some ⟨b, off, none⟩) n cap ∧ ∀ i, i < n → w.cell? ⟨b, off + i, none⟩ = some (F i)
namespace RdG
variable {w w' : World} {v : Value} {n : Nat} {F G : Nat → Value}
theorem later (h : RdG w v n F) (hb : Below w.heap.size w w') : RdG w' v n F := by
  rcases h with h | ⟨b, off, cap, rfl, h⟩
  · exact Or.inl h
  · exact Or.inr ⟨b, off, cap, rfl, fun i hi => (hb.cell (World.block_lt_of_cell? _ _ (h i hi))).trans (h i hi)⟩
theorem congr (h : RdG w v n F) (e : ∀ i, i < n → F i = G i) : RdG w v n G := by
  rcases h with h | ⟨b, off, cap, rfl, h⟩
  · exact Or.inl h
  · exact Or.inr ⟨b, off, cap, rfl, fun i hi => by rw [h i hi, e i hi]⟩
theorem form (h : RdG w v n F) : ∃ ao cap, v = .slice ao n cap := by
  rcases h with ⟨ao, cap, rfl, rfl⟩ | ⟨b, off, cap, rfl, _⟩
  · exact ⟨ao, cap, rfl⟩
  · exact ⟨_, cap, rfl⟩
theorem nil (w : World) (F : Nat → Value) : RdG w (.slice none 0 0) 0 F := Or.inl ⟨none, 0, rfl, rfl⟩
theorem drewN (h : RdG w v n F) (q : Nat) : RdG (w.drewN q) v n F := by
  rcases h with h | ⟨b, off, cap, rfl, h⟩
  · exact Or.inl h
  · exact Or.inr ⟨b, off, cap, rfl, fun i hi => by rw [World.cell?_drewN]; exact h i hi⟩
end RdG
theorem Seg.rd {w : World} {b : Nat} {t : TypeId} {off n cap : Nat} {F : Nat → Value} (h : Seg w b t off n F) : RdG w (.slice (some ⟨b, off, none⟩) n cap) n F :=
  Or.inr ⟨b, off, cap, rfl, fun _ hi => h.cell hi⟩
theorem OwS.rd {t : TypeId} {lo hi : Nat} {w : World} {v : Value} {n : Nat} {F : Nat → Value} (h : OwS t lo hi w v n F) : RdG w v n F := by
  rcases h with ⟨rfl, rfl⟩ | ⟨g, cap, rfl, _, _, h⟩
  · exact Or.inl ⟨none, 0, rfl, rfl⟩
  · exact h.rd
/-- The values F, one by one. -/
def vl (F : Nat → Value) (n : Nat) : List Value := (List.range n).map F
theorem vl_push (F : Nat → Value) (k : Nat) : vl F k ++ [F k] = vl F (k + 1) := by unfold vl; rw [List.range_succ]; simp
theorem vl_at (F : Nat → Value) {n i : Nat} (h : i < n) : (vl F n)[i]? = some (F i) := by simp [vl, h]
theorem vl_len (F : Nat → Value) (n : Nat) : (vl F n).length = n := by simp [vl]
theorem vl_congr {F G : Nat → Value} {n : Nat} (h : ∀ i, i < n → F i = G i) : vl F n = vl G n := by
  unfold vl
  exact List.map_congr_left fun i hi => h i (by simpa using hi)
theorem vl_app (F : Nat → Value) (n m : Nat) : vl F n ++ vl (fun i => F (n + i)) m = vl F (n + m) := by
  unfold vl
  rw [List.range_add, List.map_append, List.map_map]
  rfl
theorem owned_vl {w : World} {base n : Nat} {t : TypeId} {v : Value} {F : Nat → Value} (h : w.ownsRow base t 1 v n (vl F n)) : OwS t base w.heap.size w v n F := owned_seg h fun i hi => vl_at F hi
theorem step_push {ops : Array Oper} {o : Oper} {a : Act} {K : Act → World → Prop} {Q : Exit → Act → World → Prop} {E : Prop} (hgd : o.guard = none) (s x : Operand) (t : TypeId)
    (ho : o.op = .call { callee := .builtin .append, args := #[s, x], argTypes := #[t, t] }) (e : TypeId) (z : Value) (m bytes : Nat) (ht : Tryd.prog.underlying t = some (.slice e))
    (hinfo : (Tryd.prog.info? e).map (fun i => (i.zero, i.size, i.bytes)) = some (some z, m, bytes)) (hz1 : z.cells.size = m) (hm : 0 < m) (hby : bytes ≤ 100) (w : World) (us : List Value) (hul : us.length = m) (hu : ∀ u ∈ us, u.oneCell' = true)
    (base : Nat) (v : Value) (n : Nat) (xs : List Value) (hs : a.eval s = v) (hown : w.ownsRow base e m v n xs) (c : Nat) (hx : a.eval x = .slice (some ⟨w.heap.size, 0, none⟩) 1 c) (hn : n ≤ 1000000000) (hbase : base ≤ w.heap.size)
    (h : ∀ v' w', w'.ownsRow base e m v' (n + 1) (xs ++ us) → (w.alloc (.cells us.toArray e)).grownBy w' v.ownBlock → (∃ g cap, v' = .slice (some ⟨g, 0, none⟩) (n + 1) cap) → K (a.put o.dst v') w') :
    if Region.wanted o (yielded ops a.tmps) = true then Oper.wp Tryd.prog o a (w.alloc (.cells us.toArray e)) K Q else E := by
  obtain ⟨i, h1, h2, h3, h4⟩ := info_parts hinfo
  refine step_append_lies _ hgd s x t ho base e i z m bytes ht h1 h2 h3 h4 hz1 hm v n xs hs (hown.alloc _) ⟨w.heap.size, 0, none⟩ 1 c us hx (by omega) ?_ hu (by decide) ?_ ?_ ?_ _ rfl fun g cap w' a1 a2 _ _ => h _ w' a1 a2 ⟨g, cap, rfl⟩
  · intro j y hj
    have : (w.alloc (.cells us.toArray e)).heap[w.heap.size]? = some (.cells us.toArray e) := heap_alloc_new _ _
    have e0 : (⟨w.heap.size, 0, none⟩ : Addr).add j = ⟨w.heap.size, j, none⟩ := by
      unfold Addr.add
      split
      · rename_i h; subst h; rfl
      · simp
    rw [e0]
    unfold World.cell?
    rw [this]
    simpa using hj
  · unfold maxLen; omega
  · have : (n + 1) * bytes ≤ (n + 1) * 100 := Nat.mul_le_mul_left _ hby
    omega
  · simp; omega
theorem caold {W : World} {o : Obj} {p : Addr} {v : Value} (h : W.cell? p = some v) : (W.alloc o).cell? p = some v := by rw [(Below.refl _ _ |>.alloc (Nat.le_refl _) o).cell (World.block_lt_of_cell? _ _ h)]; exact h
theorem owns_set {w : World} {base n m c j : Nat} {t : TypeId} {v x : Value} {xs : List Value} (h : w.ownsRow base t m v n xs) (hc : c < base) : (w.setCell ⟨c, j, none⟩ x).ownsRow base t m v n xs := by
  obtain ⟨h0, h | ⟨g, cap, cur, hv, hg, hh, r⟩⟩ := h
  · exact ⟨h0, Or.inl h⟩
  · exact ⟨h0, Or.inr ⟨g, cap, cur, hv, hg, (Below.heap_setCell _ _ _ _ (by simp; omega)).trans hh, r⟩⟩
end Go.Proofs.YtdknclkecbdpgaaDoor
