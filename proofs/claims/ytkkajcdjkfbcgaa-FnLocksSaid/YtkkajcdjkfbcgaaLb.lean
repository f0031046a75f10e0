/- Lists of numbers in memory: read, copied, compared, marked, owned, grown; blocks. -/
import Derived.Test.YtkkajcdjkfbcgaaRows
import Derived.WalkKit
import Derived.WalkSpells
import Derived.WalkLawsBesides
import Derived.Outline
import Derived.RegionTactic
import Derived.Deep.QuietTactic
import Derived.Deep.RegionWith
import Derived.BigQuiet
import Derived.BigRegion
import Derived.WalkSmall
import Derived.Handy
import Derived.Below
import Derived.Deep.OwnRows
import Derived.Deep.RegionHeld3
import Derived.Deep.DeepCutAuto
import Derived.Deep.Draws
import Derived.OwnWalk
import Derived.Laws.AppendOwn
import Derived.Laws.CopyOwn
import Derived.Laws.Rows
import Derived.Laws.Tables
import Derived.Deep.AppendLies
namespace Go.Proofs.Ytkkajcdjkfbcgaa
open Go.RowKit
set_option linter.unusedVariables false
set_option linter.unusedSimpArgs false
theorem ret_bool {a b : Bool} (h : a = b) : Ending.returned (.bool a) = .returned (.bool b) := by rw [h]
theorem boxes {w : World} {a b c d : Value} {t s : TypeId} {W : World} (h : Below (w.heap.size + 2) ((w.alloc (.cells #[a, b] t)).alloc (.cells #[c, d] s)) W) :
    W.cell? ⟨w.heap.size, 0, none⟩ = some a ∧ W.cell? ⟨w.heap.size, 1, none⟩ = some b ∧ W.cell? ⟨w.heap.size + 1, 0, none⟩ = some c ∧ W.cell? ⟨w.heap.size + 1, 1, none⟩ = some d := by
  have c0 := h.cell (p := ⟨w.heap.size, 0, none⟩) (by simp)
  have c1 := h.cell (p := ⟨w.heap.size, 1, none⟩) (by simp)
  have c2 := h.cell (p := ⟨w.heap.size + 1, 0, none⟩) (by simp)
  have c3 := h.cell (p := ⟨w.heap.size + 1, 1, none⟩) (by simp)
  simp at c0 c1 c2 c3
  exact ⟨c0, c1, c2, c3⟩
/-- Old cells and marks, behind a call. -/
theorem olds {X W : World} (h : Below X.heap.size X W) : (∀ k j, k < X.heap.size → W.cell? ⟨k, j, none⟩ = X.cell? ⟨k, j, none⟩) ∧ (∀ k j, k < X.heap.size → W.frozen? ⟨k, j, none⟩ = X.frozen? ⟨k, j, none⟩) ∧ (∀ k, k < X.heap.size → k < W.heap.size) :=
  ⟨fun k j hk => h.cell (p := ⟨k, j, none⟩) hk, fun k j hk => h.frozen (p := ⟨k, j, none⟩) hk, fun _ hk => Nat.lt_of_lt_of_le hk h.size⟩
theorem old_cell {X W : World} (h : Below X.heap.size X W) {p : Addr} {v : Value} (hp : p.block < X.heap.size) (hv : X.cell? p = some v) : W.cell? p = some v := by rw [h.cell hp]; exact hv
theorem box_step {B : Nat} {X a b : World} (h : Below B X a) (k : Below a.heap.size a b) (hB : B ≤ X.heap.size) : Below B X b := h.trans (k.mono (Nat.le_trans hB h.size))
theorem below_of_alloc {w : World} {o : Obj} {W : World} (h : W = w.alloc o) : Below w.heap.size w W := by subst h; exact (Below.refl _ _).alloc (Nat.le_refl _) _
theorem box2 {w w1 : World} {a b : Value} {t : TypeId} (h : Below (w.heap.size + 1) (w.alloc (.cells #[a, b] t)) w1) : w1.cell? ⟨w.heap.size, 0, none⟩ = some a ∧ w1.cell? ⟨w.heap.size, 1, none⟩ = some b := by
  have c0 := h.cell (p := ⟨w.heap.size, 0, none⟩) (by simp)
  have c1 := h.cell (p := ⟨w.heap.size, 1, none⟩) (by simp)
  simp at c0 c1
  exact ⟨c0, c1⟩
theorem box_out {w : World} {o : Obj} {w1 : World} (h : Below (w.heap.size + 1) (w.alloc o) w1) : Below w.heap.size w w1 := (below_of_alloc rfl).trans (h.mono (by omega))
/-- Block b is of type t, none of its cells frozen, and from cell 'off' on it holds n values f. -/
def Seg (w : World) (b : Nat) (t : TypeId) (off n : Nat) (f : Nat → Value) : Prop :=
  ∃ c : Array Value, w.heap[b]? = some (.cells c t (0, 0)) ∧ ∀ i, i < n → c[off + i]? = some (f i)
namespace Seg
variable {w : World} {b : Nat} {t : TypeId} {off n : Nat} {f g : Nat → Value}
theorem cell (h : Seg w b t off n f) {i : Nat} (hi : i < n) : w.cell? ⟨b, off + i, none⟩ = some (f i) := by
  obtain ⟨c, hb, hc⟩ := h
  simp [World.cell?, hb, hc i hi]
theorem frozen (h : Seg w b t off n f) (i : Nat) : w.frozen? ⟨b, i, none⟩ = false := by
  obtain ⟨c, hb, _⟩ := h
  simp [World.frozen?, hb]
theorem lt (h : Seg w b t off n f) : b < w.heap.size := by
  obtain ⟨c, hb, _⟩ := h
  obtain ⟨hlt, _⟩ := Array.getElem?_eq_some_iff.1 hb
  exact hlt
theorem congr (h : Seg w b t off n f) (e : ∀ i, i < n → f i = g i) : Seg w b t off n g := by
  obtain ⟨c, hb, hc⟩ := h
  exact ⟨c, hb, fun i hi => by rw [hc i hi, e i hi]⟩
theorem of_block {w' : World} (h : Seg w b t off n f) (e : w'.heap[b]? = w.heap[b]?) : Seg w' b t off n f := by
  obtain ⟨c, hb, hc⟩ := h
  exact ⟨c, e.trans hb, hc⟩
theorem set (h : Seg w b t off n f) (i : Nat) (hi : i < n) (v : Value) : Seg (w.setCell ⟨b, off + i, none⟩ v) b t off n (fun j => if j = i then v else f j) := by
  obtain ⟨c, hb, hc⟩ := h
  refine ⟨c.setIfInBounds (off + i) v, ?_, fun j hj => ?_⟩
  · simp [World.setCell, Array.getElem?_modify, hb]
  · have hs : off + i < c.size := (Array.getElem?_eq_some_iff.1 (hc i hi)).1
    rw [Array.getElem?_setIfInBounds]
    by_cases e : j = i
    · subst e
      simp [hs]
    · rw [if_neg (fun h => e (by omega))]
      show c[off + j]? = some (if j = i then v else f j)
      rw [if_neg e]
      exact hc j hj
theorem setOther (h : Seg w b t off n f) {a : Addr} (ha : b ≠ a.block) (v : Value) : Seg (w.setCell a v) b t off n f := h.of_block (Below.heap_setCell _ _ _ _ ha)
theorem alloc (h : Seg w b t off n f) (o : Obj) : Seg (w.alloc o) b t off n f := h.of_block (Below.heap_alloc _ _ _ h.lt)
theorem drew (h : Seg w b t off n f) : Seg w.drew b t off n f := h
theorem sub (h : Seg w b t off n f) (d m : Nat) (hm : d + m ≤ n) : Seg w b t (off + d) m (fun i => f (d + i)) := by
  obtain ⟨c, hb, hc⟩ := h
  exact ⟨c, hb, fun i hi => by rw [Nat.add_assoc]; exact hc (d + i) (by omega)⟩
end Seg
theorem Seg_of_row {w : World} {b : Nat} {t : TypeId} {n : Nat} {f : Nat → Value} (h : w.rowIs b t n f) : Seg w b t 0 n f := by
  obtain ⟨c, hb, _, hc⟩ := h
  exact ⟨c, hb, fun i hi => by rw [Nat.zero_add]; exact hc i hi⟩
theorem seg_made (w : World) (z : Value) (n : Nat) (t : TypeId) : Seg (w.alloc (.cells (madeCells #[z] n) t)) w.heap.size t 0 n (fun _ => z) := Seg_of_row (World.rowIs_made w z n t)
/-- Two blocks of unlike types are two. -/
theorem Seg.ne {w : World} {b b' : Nat} {t t' : TypeId} {off n off' n' : Nat} {f g : Nat → Value} (h : Seg w b t off n f) (h' : Seg w b' t' off' n' g) (ht : t ≠ t') : b ≠ b' := by
  obtain ⟨c, hb, _⟩ := h
  obtain ⟨c', hb', _⟩ := h'
  intro e
  subst e
  rw [hb] at hb'
  simp at hb'
  exact ht hb'.2


/-! ### What is only read -/

theorem Seg.below {w w' : World} {b : Nat} {t : TypeId} {off n : Nat} {f : Nat → Value} (h : Seg w b t off n f) (hb : Below w.heap.size w w') : Seg w' b t off n f := h.of_block (hb.block _ h.lt)
/-- Stores between lo and hi alone, and new blocks. -/
structure Within (lo hi : Nat) (w w' : World) : Prop where
  below : Below lo w w'
  above : ∀ k, hi ≤ k → k < w.heap.size → w'.heap[k]? = w.heap[k]?
theorem Within.refl (lo hi : Nat) (w : World) : Within lo hi w w := ⟨Below.refl _ _, fun _ _ _ => rfl⟩
theorem Within.trans {lo hi : Nat} {a b c : World} (h : Within lo hi a b) (k : Within lo hi b c) : Within lo hi a c :=
  ⟨h.below.trans k.below, fun i h1 h2 => (k.above i h1 (Nat.lt_of_lt_of_le h2 h.below.size)).trans (h.above i h1 h2)⟩
theorem Within.setCell {lo hi : Nat} {a w : World} (h : Within lo hi a w) {p : Addr} (h1 : lo ≤ p.block) (h2 : p.block < hi) (u : Value) : Within lo hi a (w.setCell p u) :=
  h.trans ⟨(Below.refl _ _).setCell h1 u, fun k hk _ => Below.heap_setCell _ _ _ _ (by omega)⟩
theorem Within.alloc {lo hi : Nat} {a w : World} (h : Within lo hi a w) (hl : lo ≤ w.heap.size) (o : Obj) : Within lo hi a (w.alloc o) :=
  h.trans ⟨(Below.refl _ _).alloc hl o, fun _ _ hk => Below.heap_alloc _ _ _ hk⟩
theorem Within.drew {lo hi : Nat} {a w : World} (h : Within lo hi a w) : Within lo hi a w.drew := h.trans ⟨(Below.refl _ _).drew, fun _ _ _ => rfl⟩
theorem Within.mono {lo hi lo' hi' : Nat} {a w : World} (h : Within lo hi a w) (h1 : lo' ≤ lo) (h2 : hi ≤ hi') : Within lo' hi' a w := ⟨h.below.mono h1, fun k hk hs => h.above k (by omega) hs⟩
theorem quiet_eq {P : Program} {f : FuncId} {args : Array Value} {w : World} {n : Nat} {v : Value}
    (h : Calls P f args (w.drewN n) fun e w' => e = .returned v ∧ w.drewN n = w') : Calls P f args (w.drewN n) fun e w'' => e = .returned v ∧ ∃ m, w'' = w.drewN m :=
  h.mono fun _ _ ⟨he, hm⟩ => ⟨he, n, hm.symm⟩
theorem idx_inj {m i j k l : Nat} (hj : j < m) (hl : l < m) (h : i * m + j = k * m + l) : i = k ∧ j = l := by
  have e1 : (i * m + j) / m = i := by rw [Nat.mul_comm, Nat.mul_add_div (by omega), Nat.div_eq_of_lt hj]; omega
  have e2 : (k * m + l) / m = k := by rw [Nat.mul_comm, Nat.mul_add_div (by omega), Nat.div_eq_of_lt hl]; omega
  rw [h, e2] at e1
  subst e1
  exact ⟨rfl, by omega⟩
theorem idx_lt {m i j n : Nat} (hj : j < m) (hi : i < n) : i * m + j < n * m := by
  have := Nat.mul_le_mul_right m (show i + 1 ≤ n by omega)
  rw [Nat.add_mul] at this
  omega
theorem made_cell {z : Array Value} {N k : Nat} (hk : k < N) : (madeCells z N)[k]? = some z[k % z.size]! := by
  unfold madeCells
  rw [Array.getElem?_map, Array.getElem?_range]
  simp [hk]
/-- v is a slice of n values of m cells, to be read. -/
def RdV (w : World) (v : Value) (n m : Nat) (f : Nat → Nat → Value) : Prop :=
  (∃ ao cap, v = .slice ao 0 cap ∧ n = 0) ∨ ∃ b off cap, v = .slice (some ⟨b, off, none⟩) n cap ∧ ∀ i, i < n → ∀ j, j < m → w.cell? ⟨b, off + i * m + j, none⟩ = some (f i j)
theorem RdV.later {w w' : World} {v : Value} {n m : Nat} {f : Nat → Nat → Value} (h : RdV w v n m f) (hb : Below w.heap.size w w') : RdV w' v n m f := by
  rcases h with h | ⟨b, off, cap, rfl, h⟩
  · exact Or.inl h
  · exact Or.inr ⟨b, off, cap, rfl, fun i hi j hj => (hb.cell (World.block_lt_of_cell? _ _ (h i hi j hj))).trans (h i hi j hj)⟩
theorem RdV.form {w : World} {v : Value} {n m : Nat} {f : Nat → Nat → Value} (h : RdV w v n m f) : ∃ ao cap, v = .slice ao n cap := by
  rcases h with ⟨ao, cap, rfl, rfl⟩ | ⟨b, off, cap, rfl, _⟩
  · exact ⟨ao, cap, rfl⟩
  · exact ⟨_, cap, rfl⟩
/-- Block b is a row of n values of m cells, none frozen. -/
def SegV (w : World) (b : Nat) (t : TypeId) (n m : Nat) (f : Nat → Nat → Value) : Prop :=
  ∃ c : Array Value, w.heap[b]? = some (.cells c t (0, 0)) ∧ ∀ i, i < n → ∀ j, j < m → c[i * m + j]? = some (f i j)
namespace SegV
variable {w : World} {b : Nat} {t : TypeId} {n m : Nat} {f g : Nat → Nat → Value}
theorem cell (h : SegV w b t n m f) {i j : Nat} (hi : i < n) (hj : j < m) : w.cell? ⟨b, i * m + j, none⟩ = some (f i j) := by
  obtain ⟨c, hb, hc⟩ := h
  simp [World.cell?, hb, hc i hi j hj]
theorem frozen (h : SegV w b t n m f) (i : Nat) : w.frozen? ⟨b, i, none⟩ = false := by
  obtain ⟨c, hb, _⟩ := h
  simp [World.frozen?, hb]
theorem lt (h : SegV w b t n m f) : b < w.heap.size := by
  obtain ⟨c, hb, _⟩ := h
  exact (Array.getElem?_eq_some_iff.1 hb).1
theorem congr (h : SegV w b t n m f) (e : ∀ i, i < n → ∀ j, j < m → f i j = g i j) : SegV w b t n m g := by
  obtain ⟨c, hb, hc⟩ := h
  exact ⟨c, hb, fun i hi j hj => by rw [hc i hi j hj, e i hi j hj]⟩
theorem of_block {w' : World} (h : SegV w b t n m f) (e : w'.heap[b]? = w.heap[b]?) : SegV w' b t n m f := by
  obtain ⟨c, hb, hc⟩ := h
  exact ⟨c, e.trans hb, hc⟩
theorem below {w' : World} (h : SegV w b t n m f) (hb : Below w.heap.size w w') : SegV w' b t n m f := h.of_block (hb.block _ h.lt)
theorem set (h : SegV w b t n m f) {k l : Nat} (hk : k < n) (hl : l < m) (x : Value) : SegV (w.setCell ⟨b, k * m + l, none⟩ x) b t n m (fun i j => if i = k ∧ j = l then x else f i j) := by
  obtain ⟨c, hb, hc⟩ := h
  refine ⟨c.setIfInBounds (k * m + l) x, ?_, fun i hi j hj => ?_⟩
  · simp [World.setCell, Array.getElem?_modify, hb]
  · have hs : k * m + l < c.size := (Array.getElem?_eq_some_iff.1 (hc k hk l hl)).1
    rw [Array.getElem?_setIfInBounds]
    by_cases e : i = k ∧ j = l
    · obtain ⟨rfl, rfl⟩ := e
      simp [hs]
    · rw [if_neg (fun h => e (by have := idx_inj hl hj h; exact ⟨this.1.symm, this.2.symm⟩))]
      simp only [e, if_false]
      exact hc i hi j hj
end SegV
theorem SegV.rd {w : World} {b : Nat} {t : TypeId} {n m cap : Nat} {f : Nat → Nat → Value} (h : SegV w b t n m f) : RdV w (.slice (some ⟨b, 0, none⟩) n cap) n m f :=
  Or.inr ⟨b, 0, cap, rfl, fun i hi j hj => by rw [Nat.zero_add]; exact h.cell hi hj⟩
theorem SegV.keep {w w' : World} {b B : Nat} {t : TypeId} {n m : Nat} {f : Nat → Nat → Value} (h : SegV w b t n m f) (k : Below B w w') (hb : b < B) : SegV w' b t n m f := h.of_block (k.block _ hb)
theorem RdV.keep {w w' : World} {v : Value} {B n m : Nat} {f : Nat → Nat → Value} (h : RdV w v n m f) (k : Below B w w') (hv : ∀ b off cap, v = .slice (some ⟨b, off, none⟩) n cap → b < B) : RdV w' v n m f := by
  rcases h with h | ⟨b, off, cap, rfl, h⟩
  · exact Or.inl h
  · exact Or.inr ⟨b, off, cap, rfl, fun i hi j hj => (k.cell (hv b off cap rfl)).trans (h i hi j hj)⟩
theorem SegV.setOther {w : World} {b c o : Nat} {t : TypeId} {n m : Nat} {f : Nat → Nat → Value} (h : SegV w b t n m f) (hne : b ≠ c) (x : Value) : SegV (w.setCell ⟨c, o, none⟩ x) b t n m f :=
  h.of_block (Below.heap_setCell _ _ _ _ (by simpa using hne))
theorem info_parts {e : TypeId} {z : Value} {m bytes : Nat} (h : (Try.prog.info? e).map (fun i => (i.zero, i.size, i.bytes)) = some (some z, m, bytes)) :
    ∃ i, Try.prog.info? e = some i ∧ i.zero = some z ∧ i.size = m ∧ i.bytes = bytes := by
  obtain ⟨i, hi, e⟩ := Option.map_eq_some_iff.1 h
  simp only [Prod.mk.injEq] at e
  exact ⟨i, hi, e.1, e.2.1, e.2.2⟩
theorem owns_later {w w' : World} {base n m : Nat} {t : TypeId} {v : Value} {xs : List Value} (h : w.ownsRow base t m v n xs) (hb : Below w.heap.size w w') : w'.ownsRow base t m v n xs := by
  obtain ⟨h0, h | ⟨g, cap, cur, hv, hg, hh, r⟩⟩ := h
  · exact ⟨h0, Or.inl h⟩
  · exact ⟨h0, Or.inr ⟨g, cap, cur, hv, hg, (hb.block g (Array.getElem?_eq_some_iff.1 hh).1).trans hh, r⟩⟩
theorem owns_empty (w : World) (t : TypeId) (m : Nat) : (w.alloc (.cells #[] t)).ownsRow w.heap.size t m (.slice (some ⟨w.heap.size, 0, none⟩) 0 0) 0 [] :=
  ⟨by simp, Or.inr ⟨w.heap.size, 0, #[], rfl, Nat.le_refl _, heap_alloc_new _ _, Nat.le_refl _, Nat.zero_le _, by simp, by simp⟩⟩
theorem owns_nil (w : World) (base : Nat) (t : TypeId) (m : Nat) : w.ownsRow base t m (.slice none 0 0) 0 [] := ⟨by simp, Or.inl ⟨rfl, rfl⟩⟩
theorem push_below {w w1 W : World} {base n m : Nat} {t : TypeId} {v : Value} {xs : List Value} {o : Obj} (h : w.ownsRow base t m v n xs) (hg : (w.alloc o).grownBy w1 v.ownBlock) (hb : Below base W w) (hB : base ≤ w.heap.size) : Below base W w1 :=
  (hb.alloc hB o).grown hg (by simp; omega) fun k hk => (h.lt k hk).1
theorem push_law {ops : Array Oper} {rest : List Oper} {o : Oper} {a : Act} {Q : Exit → Act → World → Prop} (hgd : o.guard = none) (s x : Operand) (t : TypeId)
    (ho : o.op = .call { callee := .builtin .append, args := #[s, x], argTypes := #[t, t] }) (e : TypeId) (z : Value) (m bytes : Nat) (ht : Try.prog.underlying t = some (.slice e))
    (hinfo : (Try.prog.info? e).map (fun i => (i.zero, i.size, i.bytes)) = some (some z, m, bytes)) (hz1 : z.cells.size = m) (hm : 0 < m) (hby : bytes ≤ 100) (w : World) (us : List Value) (hul : us.length = m) (hu : ∀ u ∈ us, u.oneCell' = true)
    (base : Nat) (v : Value) (n : Nat) (xs : List Value) (hs : a.eval s = v) (hown : w.ownsRow base e m v n xs) (c : Nat) (hx : a.eval x = .slice (some ⟨w.heap.size, 0, none⟩) 1 c) (hn : n ≤ 1000000000) (hbase : base ≤ w.heap.size)
    (h : ∀ v' w', w'.ownsRow base e m v' (n + 1) (xs ++ us) → (w.alloc (.cells us.toArray e)).grownBy w' v.ownBlock → v' ≠ .slice none 0 0 → wpList Try.prog ops Q rest (a.put o.dst v') w') : wpList Try.prog ops Q (o :: rest) a (w.alloc (.cells us.toArray e)) := by
  obtain ⟨i, h1, h2, h3, h4⟩ := info_parts hinfo
  refine wpList_append_own _ hgd s x t ho base e i z m bytes ht h1 h2 h3 h4 hz1 hm v n xs hs (hown.alloc _) ⟨w.heap.size, 0, none⟩ 1 c us hx (by omega) ?_ hu ?_ ?_ ?_ fun v' w' a1 a2 a3 => h v' w' a1 a2 ?_
  · intro j y hj
    have : (w.alloc (.cells us.toArray e)).heap[w.heap.size]? = some (.cells us.toArray e) := heap_alloc_new _ _
    have e0 : (⟨w.heap.size, 0, none⟩ : Addr).add j = ⟨w.heap.size, j, none⟩ := by
      unfold Addr.add
      split
      · rename_i h; subst h; rfl
      · simp
    rw [e0]
    unfold World.cell?
    rw [this]
    simpa using hj
  · unfold maxLen; omega
  · have : (n + 1) * bytes ≤ (n + 1) * 100 := Nat.mul_le_mul_left _ hby
    omega
  · simp; omega
  · intro e
    have := (a3.1 e).2
    omega
/-- Values of m cells each, one behind another. -/
def flat (F : Nat → List Value) (n : Nat) : List Value := (List.range n).flatMap F
theorem flat_zero (F : Nat → List Value) : flat F 0 = [] := rfl
theorem flat_succ (F : Nat → List Value) (n : Nat) : flat F (n + 1) = flat F n ++ F n := by
  unfold flat
  rw [List.range_succ, List.flatMap_append]
  simp
theorem flat_len {F : Nat → List Value} {m : Nat} (h : ∀ i, (F i).length = m) : ∀ n, (flat F n).length = n * m
  | 0 => by simp [flat_zero]
  | n + 1 => by rw [flat_succ, List.length_append, flat_len h n, h, Nat.succ_mul]
theorem flat_at {F : Nat → List Value} {m : Nat} (h : ∀ i, (F i).length = m) : ∀ {n i j : Nat}, i < n → j < m → (flat F n)[i * m + j]? = (F i)[j]?
  | 0, _, _, hi, _ => absurd hi (Nat.not_lt_zero _)
  | n + 1, i, j, hi, hj => by
    rw [flat_succ]
    by_cases e : i < n
    · rw [List.getElem?_append_left (by rw [flat_len h]; exact idx_lt hj e)]
      exact flat_at h e hj
    · obtain rfl : i = n := by omega
      rw [List.getElem?_append_right (by rw [flat_len h]; omega), flat_len h]
      congr 1
      omega
/-- What append has built, read off its block. -/
theorem owned_segV {w : World} {base n m : Nat} {t : TypeId} {v : Value} {F : Nat → List Value} {f : Nat → Nat → Value} (hF : ∀ i, (F i).length = m) (hf : ∀ i, i < n → ∀ j, j < m → (F i)[j]? = some (f i j)) (h : w.ownsRow base t m v n (flat F n)) (hv : v ≠ .slice none 0 0) :
    ∃ g cap, v = .slice (some ⟨g, 0, none⟩) n cap ∧ base ≤ g ∧ SegV w g t n m f := by
  obtain ⟨_, h | ⟨g, cap, cur, hv, hg, hh, h1, h2, h3, h4⟩⟩ := h
  · exact absurd h.1 hv
  · refine ⟨g, cap, hv, hg, cur, hh, fun i hi j hj => ?_⟩
    have hl : i * m + j < n * m := idx_lt hj hi
    rw [← hf i hi j hj, ← flat_at hF hi hj, ← h4, List.getElem?_take_of_lt hl, ← Array.getElem?_toList]
theorem owns_made (w : World) (z : Array Value) (n m : Nat) (t : TypeId) (hn : n ≤ maxLen) : (w.alloc (.cells (madeCells z (n * m)) t)).ownsRow w.heap.size t m (.slice (some ⟨w.heap.size, 0, none⟩) 0 n) 0 [] :=
  ⟨by simp, Or.inr ⟨w.heap.size, n, _, rfl, Nat.le_refl _, heap_alloc_new _ _, Nat.zero_le _, hn, by unfold madeCells; simp, by simp⟩⟩
/-- Block b holds these cells. -/
def Blk (W : World) (b : Nat) (cs : Array Value) (t : TypeId) : Prop := W.heap[b]? = some (.cells cs t (0, 0))
namespace Blk
variable {W W' : World} {b r : Nat} {cs : Array Value} {t : TypeId}
theorem lt (h : Blk W b cs t) : b < W.heap.size := (Array.getElem?_eq_some_iff.1 h).1
theorem cell (h : Blk W b cs t) {j : Nat} {v : Value} (hj : cs[j]? = some v) : W.cell? ⟨b, j, none⟩ = some v := by simp only [World.cell?, show W.heap[b]? = _ from h]; exact hj
theorem frozen (h : Blk W b cs t) (j : Nat) : W.frozen? ⟨b, j, none⟩ = false := by simp only [World.frozen?, show W.heap[b]? = _ from h]; rfl
theorem old (h : Blk W b cs t) (k : Below W.heap.size W W') : Blk W' b cs t := (k.block b h.lt).trans h
theorem alloc (h : Blk W b cs t) (o : Obj) : Blk (W.alloc o) b cs t := (Below.heap_alloc _ _ _ h.lt).trans h
theorem new {c : Array Value} (hb : b = W.heap.size) : Blk (W.alloc (.cells c t)) b c t := by subst hb; show (W.heap.push _)[W.heap.size]? = _; simp
theorem drew (h : Blk W b cs t) : Blk W.drew b cs t := h
theorem drewN (h : Blk W b cs t) (q : Nat) : Blk (W.drewN q) b cs t := (below_drewN (Below.refl W.heap.size W) q).block b h.lt |>.trans h
theorem setOther (h : Blk W b cs t) {p : Addr} (hp : b ≠ p.block) (u : Value) : Blk (W.setCell p u) b cs t := (Below.heap_setCell _ _ _ _ hp).trans h
theorem set (h : Blk W b cs t) (j : Nat) (v : Value) {c2 : Array Value} (hc : cs.setIfInBounds j v = c2) : Blk (W.setCell ⟨b, j, none⟩ v) b c2 t := by
  subst hc
  unfold Blk at h ⊢
  simp [World.setCell, Array.getElem?_modify, h]
end Blk
theorem below_new {B : Nat} {w W : World} (h : Below B w W) (o : Obj) (hB : B ≤ w.heap.size := by exact Nat.le_refl _) : Below B w (W.alloc o) := h.alloc (Nat.le_trans hB h.size) o
theorem res_blk {fn : Func} {s : Nat} {t : TypeId} (hf : fn.results = #[.cell s t]) {tmps : Array Value} {r : Nat} (hp : tmps.getD s undef = .pointer (some ⟨r, 0, none⟩)) {W : World} {cs : Array Value}
    (h : (loadVar t ⟨r, 0, none⟩).run Try.prog W = .ok (.agg cs) W) : (results fn tmps).run Try.prog W = .ok (.agg cs) W := by
  have hp2 : tmps[s]?.getD undef = .pointer (some ⟨r, 0, none⟩) := by simpa using hp
  unfold loadVar at h
  unfold results loadVar
  rw [hf]
  simp [go_sem, asAddr, hp2] at h ⊢
  rw [h]
theorem Blk.setRow {W : World} {b : Nat} {cs c2 : Array Value} {t : TypeId} (h : Blk W b cs t) : Blk (W.setRow b c2) b c2 t := setRow_heap W b cs c2 t (0, 0) h
theorem Blk.setRowOther {W : World} {b r : Nat} {cs c2 : Array Value} {t : TypeId} (h : Blk W b cs t) (hr : b ≠ r) : Blk (W.setRow r c2) b cs t := (setRow_other W r b c2 hr).trans h
/-- v is nil, or a list of n values F in a block from lo on, below hi. -/
def OwS (t : TypeId) (lo hi : Nat) (w : World) (v : Value) (n : Nat) (F : Nat → Value) : Prop :=
  (v = .slice none 0 0 ∧ n = 0) ∨ ∃ g cap, v = .slice (some ⟨g, 0, none⟩) n cap ∧ lo ≤ g ∧ g < hi ∧ Seg w g t 0 n F
namespace OwS
variable {t : TypeId} {lo hi : Nat} {w w' : World} {v : Value} {n : Nat} {F G : Nat → Value}
theorem later (h : OwS t lo hi w v n F) (b : Below w.heap.size w w') : OwS t lo hi w' v n F := by
  rcases h with h | ⟨g, cap, rfl, h1, h2, h3⟩
  · exact Or.inl h
  · exact Or.inr ⟨g, cap, rfl, h1, h2, h3.below b⟩
theorem under (h : OwS t lo hi w v n F) {a c : Nat} (b : Within a c w w') (hh : hi ≤ a ∨ c ≤ lo) : OwS t lo hi w' v n F := by
  rcases h with h | ⟨g, cap, rfl, h1, h2, h3⟩
  · exact Or.inl h
  · refine Or.inr ⟨g, cap, rfl, h1, h2, h3.of_block ?_⟩
    rcases hh with hh | hh
    · exact b.below.block g (by omega)
    · exact b.above g (by omega) h3.lt
theorem congr (h : OwS t lo hi w v n F) (e : ∀ i, i < n → F i = G i) : OwS t lo hi w v n G := by
  rcases h with h | ⟨g, cap, rfl, h1, h2, h3⟩
  · exact Or.inl h
  · exact Or.inr ⟨g, cap, rfl, h1, h2, h3.congr e⟩
theorem form (h : OwS t lo hi w v n F) : ∃ ao cap, v = .slice ao n cap := by
  rcases h with ⟨rfl, rfl⟩ | ⟨g, cap, rfl, _⟩
  · exact ⟨none, 0, rfl⟩
  · exact ⟨_, cap, rfl⟩
end OwS
theorem Within.later {lo hi : Nat} {a w w' : World} (h : Within lo hi a w) (b : Below w.heap.size w w') (hl : lo ≤ w.heap.size) : Within lo hi a w' :=
  ⟨h.below.trans (b.mono hl), fun k h1 h2 => (b.block k (Nat.lt_of_lt_of_le h2 h.below.size)).trans (h.above k h1 h2)⟩
theorem Blk.under {w w' : World} {b : Nat} {cs : Array Value} {t : TypeId} (h : Blk w b cs t) {a c : Nat} (k : Within a c w w') (hh : b < a ∨ c ≤ b) : Blk w' b cs t := by
  rcases hh with hh | hh
  · exact (k.below.block b hh).trans h
  · exact (k.above b hh h.lt).trans h
theorem Blk.later {w w' : World} {b : Nat} {cs : Array Value} {t : TypeId} (h : Blk w b cs t) (k : Below w.heap.size w w') : Blk w' b cs t := h.old k
/-- Cells read off a list that append has built. -/
theorem owned_seg {w : World} {base n : Nat} {t : TypeId} {v : Value} {xs : List Value} {F : Nat → Value} (h : w.ownsRow base t 1 v n xs) (hF : ∀ i, i < n → xs[i]? = some (F i)) : OwS t base w.heap.size w v n F := by
  obtain ⟨hl, h | ⟨g, cap, cur, hv, hg, hh, h1, h2, h3, h4⟩⟩ := h
  · exact Or.inl h
  · refine Or.inr ⟨g, cap, hv, hg, (Array.getElem?_eq_some_iff.1 hh).1, cur, hh, fun i hi => ?_⟩
    rw [← hF i hi, ← h4, Nat.zero_add, Nat.mul_one, List.getElem?_take_of_lt hi, ← Array.getElem?_toList]
/-! ### marks in lists of floats -/
theorem drew_below {P : Prop} {w w' : World} (h : P ∧ ∃ q, w' = w.drewN q) : P ∧ Below w.heap.size w w' := by
  obtain ⟨h1, q, rfl⟩ := h
  exact ⟨h1, below_drewN (Below.refl _ _) q⟩
/-- v is a slice of n numbers f, to be read. -/
def RdRow (w : World) (v : Value) (n : Nat) (f : Nat → Int) : Prop :=
  (∃ ao cap, v = .slice ao 0 cap ∧ n = 0) ∨ ∃ b off cap, v = .slice (some ⟨b, off, none⟩) n cap ∧ ∀ i, i < n → w.cell? ⟨b, off + i, none⟩ = some (.int .i64 (f i))
theorem RdRow.later {w w' : World} {v : Value} {n : Nat} {f : Nat → Int} (h : RdRow w v n f) (hb : Below w.heap.size w w') : RdRow w' v n f := by
  rcases h with h | ⟨b, off, cap, rfl, h⟩
  · exact Or.inl h
  · exact Or.inr ⟨b, off, cap, rfl, fun i hi => (hb.cell (World.block_lt_of_cell? _ _ (h i hi))).trans (h i hi)⟩
theorem RdRow.congr {w : World} {v : Value} {n : Nat} {f g : Nat → Int} (h : RdRow w v n f) (e : ∀ i, i < n → f i = g i) : RdRow w v n g := by
  rcases h with h | ⟨b, off, cap, rfl, h⟩
  · exact Or.inl h
  · exact Or.inr ⟨b, off, cap, rfl, fun i hi => by rw [h i hi, e i hi]⟩
theorem Seg.rdI {w : World} {b : Nat} {t : TypeId} {off n cap : Nat} {f : Nat → Int} (h : Seg w b t off n (fun i => .int .i64 (f i))) : RdRow w (.slice (some ⟨b, off, none⟩) n cap) n f :=
  Or.inr ⟨b, off, cap, rfl, fun _ hi => h.cell hi⟩
theorem RdRow.nil (w : World) (f : Nat → Int) : RdRow w (.slice none 0 0) 0 f := Or.inl ⟨none, 0, rfl, rfl⟩

theorem info2 : (Try.prog.info? 2).map (fun i => (i.zero, i.size, i.bytes)) = some (some (.int .i64 0), 1, 8) := by kernel_rfl
set_option maxHeartbeats 800000 in
theorem toI_some (b off n cap : Nat) (f : Nat → Int) (w : World) (hn : n ≤ 1000000000000) (hc : ∀ i, i < n → w.cell? ⟨b, off + i, none⟩ = some (.int .i64 (f i))) :
    Calls Try.prog 33 #[.slice (some ⟨b, off, none⟩) n cap] w fun e w' => e = .returned (.slice (some ⟨w.heap.size, 0, none⟩) n n) ∧
      Seg w' w.heap.size 2 0 n (fun i => .int .i64 (f i)) ∧ Below w.heap.size w w' ∧ w'.heap.size = w.heap.size + 1 := by
  have hmk := run_make_row' (P := Try.prog) 24 2 (.int .i64 0) 8 Try.underlying24 info2 rfl .i64 .i64 n (by omega) (by omega)
  go_enter Try.func33, Try.ntmps33
  go_wp2_with fail
  clear hmk
  go_loopw [4] (fun i wr => ∃ k : Nat, k ≤ n ∧ i = .int .i64 k ∧ Seg wr w.heap.size 2 0 n (fun j => if j < k then .int .i64 (f j) else .int .i64 0) ∧ Below w.heap.size w wr ∧ wr.heap.size = w.heap.size + 1) (fun i _ => n - (intOf i).toNat)
  case atStart => exact ⟨0, Nat.zero_le _, rfl, (seg_made w _ n 2).congr (fun j _ => by simp), (Below.refl _ _).alloc (Nat.le_refl _) _, by simp⟩
  case round =>
    obtain ⟨k, hk, rfl, hs, hb, hz⟩ := hrel
    by_cases hkn : k < n
    · have g1 : wr.cell? ⟨b, off + k, none⟩ = some (.int .i64 (f k)) := (hb.cell (World.block_lt_of_cell? _ _ (hc k hkn))).trans (hc k hkn)
      have g2 : wr.cell? ⟨w.heap.size, k, none⟩ = some (.int .i64 0) := by simpa using hs.cell hkn
      have g3 : wr.frozen? ⟨w.heap.size, k, none⟩ = false := hs.frozen k
      have HS : Hid (Seg wr w.heap.size 2 0 n (fun j => if j < k then .int .i64 (f j) else .int .i64 0) ∧ Below w.heap.size w wr ∧ wr.heap.size = w.heap.size + 1) := ⟨hs, hb, hz⟩
      clear hs hb hz hc
      go_wp2
      go_roundw
      case rel =>
        obtain ⟨hs, hb, hz⟩ := HS.out
        refine ⟨k + 1, by omega, by simp, ?_, hb.setCell (Nat.le_refl _) _, by simpa using hz⟩
        have := hs.set k hkn (.int .i64 (f k))
        rw [Nat.zero_add] at this
        refine this.congr fun j hj => ?_
        by_cases e : j = k
        · subst e; simp
        · by_cases e2 : j < k
          · simp [e, e2, Nat.lt_succ_of_lt e2]
          · simp [e, e2]; intro h; omega
      case measure => simp [intOf]; omega
    · obtain rfl : k = n := by omega
      clear hc
      go_wp2
      go_ret
      exact ⟨rfl, hs.congr fun j hj => by simp [hj], hb, hz⟩
theorem toI_none (ao : Option Addr) (cap : Nat) (f : Nat → Int) (w : World) :
    Calls Try.prog 33 #[.slice ao 0 cap] w fun e w' => e = .returned (.slice (some ⟨w.heap.size, 0, none⟩) 0 0) ∧
      Seg w' w.heap.size 2 0 0 (fun i => .int .i64 (f i)) ∧ Below w.heap.size w w' ∧ w'.heap.size = w.heap.size + 1 := by
  have hmk := run_make_row' (P := Try.prog) 24 2 (.int .i64 0) 8 Try.underlying24 info2 rfl .i64 .i64 0 (by omega) (by omega)
  rw [show ((0 : Nat) : Int) = 0 from rfl] at hmk
  have hS := seg_made w (.int .i64 0) 0 2
  have hB : Below w.heap.size w (w.alloc (.cells (madeCells #[.int .i64 0] 0) 2)) := (Below.refl _ _).alloc (Nat.le_refl _) _
  go_enter Try.func33, Try.ntmps33
  go_wp2_with fail
  refine wp_loop_rounds 1 ?_
  rw [rounds_succ]
  go_wp2
  go_ret
  exact ⟨rfl, hS.congr fun j hj => absurd hj (Nat.not_lt_zero _), hB, by simp⟩
theorem toI_any {w : World} {v : Value} {n : Nat} {f : Nat → Int} (h : RdRow w v n f) (hn : n ≤ 1000000000000) :
    Calls Try.prog 33 #[v] w fun e w' => e = .returned (.slice (some ⟨w.heap.size, 0, none⟩) n n) ∧
      Seg w' w.heap.size 2 0 n (fun i => .int .i64 (f i)) ∧ Below w.heap.size w w' ∧ w'.heap.size = w.heap.size + 1 := by
  rcases h with ⟨ao, cap, rfl, rfl⟩ | ⟨b, off, cap, rfl, hc⟩
  · exact toI_none ao cap f w
  · exact toI_some b off n cap f w hn hc

theorem RdRow.drewN {w : World} {v : Value} {n : Nat} {f : Nat → Int} (h : RdRow w v n f) (q : Nat) : RdRow (w.drewN q) v n f := by
  rcases h with h | ⟨b, off, cap, rfl, h⟩
  · exact Or.inl h
  · exact Or.inr ⟨b, off, cap, rfl, fun i hi => by rw [World.cell?_drewN]; exact h i hi⟩
set_option maxHeartbeats 800000 in
theorem eqI_some (b off cap b' off' cap' n : Nat) (f : Nat → Int) (w : World) (hn : n ≤ 1000000000000)
    (hc : ∀ i, i < n → w.cell? ⟨b, off + i, none⟩ = some (.int .i64 (f i))) (hc' : ∀ i, i < n → w.cell? ⟨b', off' + i, none⟩ = some (.int .i64 (f i))) :
    Calls Try.prog 35 #[.slice (some ⟨b, off, none⟩) n cap, .slice (some ⟨b', off', none⟩) n cap'] w fun e w' => e = .returned (.bool true) ∧ ∃ q, w' = w.drewN q := by
  go_enter Try.func35, Try.ntmps35
  go_wp2_with fail
  go_loopw [5] (fun i wr => ∃ k q : Nat, k ≤ n ∧ i = .int .i64 k ∧ wr = w.drewN q) (fun i _ => n - (intOf i).toNat)
  case atStart => exact ⟨0, 0, Nat.zero_le _, rfl, rfl⟩
  case round =>
    obtain ⟨k, q, hk, rfl, rfl⟩ := hrel
    by_cases hkn : k < n
    · have g1 := hc k hkn
      have g2 := hc' k hkn
      clear hc hc'
      go_wp2
      go_quiet (fail)
      go_wp2
      go_roundw
      case rel => exact ⟨k + 1, q + nq, by omega, by simp, by first | rfl | rw [World.drewN_drewN]⟩
      case measure => simp [intOf]; omega
    · obtain rfl : k = n := by omega
      clear hc hc'
      go_wp2
      go_ret
      exact ⟨rfl, q, rfl⟩
theorem eqI_none (ao ao' : Option Addr) (cap cap' : Nat) (w : World) :
    Calls Try.prog 35 #[.slice ao 0 cap, .slice ao' 0 cap'] w fun e w' => e = .returned (.bool true) ∧ ∃ q, w' = w.drewN q := by
  go_enter Try.func35, Try.ntmps35
  go_wp2_with fail
  refine wp_loop_rounds 1 ?_
  rw [rounds_succ]
  go_wp2
  go_ret
  exact ⟨rfl, 0, rfl⟩
theorem eqI_any {w : World} {v v' : Value} {n : Nat} {f : Nat → Int} (h : RdRow w v n f) (h' : RdRow w v' n f) (hn : n ≤ 1000000000000) :
    Calls Try.prog 35 #[v, v'] w fun e w' => e = .returned (.bool true) ∧ ∃ q, w' = w.drewN q := by
  rcases h with ⟨ao, cap, rfl, rfl⟩ | ⟨b, off, cap, rfl, hc⟩
  · rcases h' with ⟨ao', cap', rfl, _⟩ | ⟨b', off', cap', rfl, hc'⟩
    · exact eqI_none _ _ _ _ w
    · exact eqI_none _ _ _ _ w
  · rcases h' with ⟨ao', cap', rfl, rfl⟩ | ⟨b', off', cap', rfl, hc'⟩
    · exact eqI_none _ _ _ _ w
    · exact eqI_some b off cap b' off' cap' n f w hn hc hc'
set_option maxHeartbeats 800000 in
theorem markI_some (b off n cap : Nat) (f : Nat → Int) (k0 : Int) (w : World) (h0 : 0 ≤ k0) (h1 : k0 + n ≤ 1000000000000) (hs0 : Seg w b 2 off n (fun i => .int .i64 (f i))) :
    Calls Try.prog 87 #[.slice (some ⟨b, off, none⟩) n cap, .int .i64 k0] w fun e w' => e = .returned (.int .i64 (k0 + n)) ∧
      Seg w' b 2 off n (fun i => .int .i64 (k0 + i)) ∧ Within b (b + 1) w w' ∧ w'.heap.size = w.heap.size := by
  go_enter Try.func87, Try.ntmps87
  go_wp2_with fail
  go_loopw [1, 5] (fun q i wr => ∃ k : Nat, k ≤ n ∧ i = .int .i64 k ∧ q = .int .i64 (k0 + k) ∧ Seg wr b 2 off n (fun j => if j < k then .int .i64 (k0 + j) else .int .i64 (f j)) ∧ Within b (b + 1) w wr ∧ wr.heap.size = w.heap.size) (fun _ i _ => n - (intOf i).toNat)
  case atStart => exact ⟨0, Nat.zero_le _, rfl, by simp, hs0.congr (fun j _ => by simp), Within.refl _ _ _, rfl⟩
  case round =>
    obtain ⟨k, hk, rfl, rfl, hs, hb, hz⟩ := hrel
    clear hs0
    by_cases hkn : k < n
    · have g2 : wr.cell? ⟨b, off + k, none⟩ = some (.int .i64 (f k)) := by simpa using hs.cell hkn
      have g3 : wr.frozen? ⟨b, off + k, none⟩ = false := hs.frozen (off + k)
      have HS : Hid (Seg wr b 2 off n (fun j => if j < k then .int .i64 (k0 + j) else .int .i64 (f j)) ∧ Within b (b + 1) w wr ∧ wr.heap.size = w.heap.size) := ⟨hs, hb, hz⟩
      clear hs hb hz
      go_wp2
      go_roundw
      case rel =>
        obtain ⟨hs, hb, hz⟩ := HS.out
        refine ⟨k + 1, by omega, by simp, by simp; omega, ?_, hb.setCell (Nat.le_refl _) (Nat.lt_succ_self _) _, by simpa using hz⟩
        refine (hs.set k hkn (.int .i64 (k0 + k))).congr fun j hj => ?_
        by_cases e : j = k
        · subst e; simp
        · by_cases e2 : j < k
          · simp [e, e2, Nat.lt_succ_of_lt e2]
          · simp [e, e2]; intro h; omega
      case measure => simp [intOf]; omega
    · obtain rfl : k = n := by omega
      go_wp2
      go_ret
      exact ⟨rfl, hs.congr fun j hj => by simp [hj], hb, hz⟩
theorem markI_none (ao : Option Addr) (cap : Nat) (k0 : Int) (w : World) : Calls Try.prog 87 #[.slice ao 0 cap, .int .i64 k0] w fun e w' => e = .returned (.int .i64 k0) ∧ w = w' := by
  go_enter Try.func87, Try.ntmps87
  go_wp2_with fail
  refine wp_loop_rounds 1 ?_
  rw [rounds_succ]
  go_wp2
  go_ret
  exact ⟨rfl, rfl⟩
set_option maxHeartbeats 800000 in
theorem heldI_some (b off n cap : Nat) (k0 : Int) (w : World) (h0 : 0 ≤ k0) (h1 : k0 + n ≤ 1000000000000) (hc : ∀ i : Nat, i < n → w.cell? ⟨b, off + i, none⟩ = some (.int .i64 (k0 + i))) :
    Calls Try.prog 88 #[.slice (some ⟨b, off, none⟩) n cap, .int .i64 k0] w fun e w' => e = .returned (.int .i64 (k0 + n)) ∧ w = w' := by
  go_enter Try.func88, Try.ntmps88
  go_wp2_with fail
  go_loopw [1, 5] (fun q i wr => wr = w ∧ ∃ k : Nat, k ≤ n ∧ i = .int .i64 k ∧ q = .int .i64 (k0 + k)) (fun _ i _ => n - (intOf i).toNat)
  case atStart => exact ⟨rfl, 0, Nat.zero_le _, rfl, by simp⟩
  case round =>
    obtain ⟨rfl, k, hk, rfl, rfl⟩ := hrel
    by_cases hkn : k < n
    · have g := hc k hkn
      clear hc
      go_wp2
      go_roundw
      case rel => exact ⟨by trivial, k + 1, by omega, by simp, by simp; omega⟩
      case measure => simp [intOf]; omega
    · obtain rfl : k = n := by omega
      clear hc
      go_wp2
      go_ret
      exact ⟨rfl, rfl⟩
theorem heldI_none (ao : Option Addr) (cap : Nat) (k0 : Int) (w : World) : Calls Try.prog 88 #[.slice ao 0 cap, .int .i64 k0] w fun e w' => e = .returned (.int .i64 k0) ∧ w = w' := by
  go_enter Try.func88, Try.ntmps88
  go_wp2_with fail
  refine wp_loop_rounds 1 ?_
  rw [rounds_succ]
  go_wp2
  go_ret
  exact ⟨rfl, rfl⟩
theorem OwS.rdI {t : TypeId} {lo hi : Nat} {w : World} {v : Value} {n : Nat} {f : Nat → Int} (h : OwS t lo hi w v n (fun i => .int .i64 (f i))) : RdRow w v n f := by
  rcases h with ⟨rfl, rfl⟩ | ⟨g, cap, rfl, _, _, h⟩
  · exact Or.inl ⟨none, 0, rfl, rfl⟩
  · exact h.rdI
theorem markI_own {lo hi : Nat} {w : World} {v : Value} {n : Nat} {f : Nat → Int} (h : OwS 2 lo hi w v n (fun i => .int .i64 (f i))) (k0 : Int) (h0 : 0 ≤ k0) (h1 : k0 + n ≤ 1000000000000) :
    Calls Try.prog 87 #[v, .int .i64 k0] w fun e w' => e = .returned (.int .i64 (k0 + n)) ∧ OwS 2 lo hi w' v n (fun i => .int .i64 (k0 + i)) ∧ Within lo hi w w' ∧ w'.heap.size = w.heap.size := by
  rcases h with ⟨rfl, rfl⟩ | ⟨g, cap, rfl, h2, h3, h4⟩
  · refine (markI_none none 0 k0 w).mono ?_
    rintro e w' ⟨rfl, rfl⟩
    exact ⟨by simp, Or.inl ⟨rfl, rfl⟩, Within.refl _ _ _, rfl⟩
  · refine (markI_some g 0 n cap f k0 w h0 h1 h4).mono ?_
    rintro e w' ⟨rfl, a, b, c⟩
    exact ⟨rfl, Or.inr ⟨g, cap, rfl, h2, h3, a⟩, b.mono h2 (by omega), c⟩
theorem heldI_own {lo hi : Nat} {w : World} {v : Value} {n : Nat} {k0 : Int} (h : OwS 2 lo hi w v n (fun i => .int .i64 (k0 + i))) (h0 : 0 ≤ k0) (h1 : k0 + n ≤ 1000000000000) :
    Calls Try.prog 88 #[v, .int .i64 k0] w fun e w' => e = .returned (.int .i64 (k0 + n)) ∧ w = w' := by
  rcases h with ⟨rfl, rfl⟩ | ⟨g, cap, rfl, h2, h3, h4⟩
  · refine (heldI_none none 0 k0 w).mono ?_
    rintro e w' ⟨rfl, rfl⟩
    exact ⟨by simp, rfl⟩
  · exact heldI_some g 0 n cap k0 w h0 h1 fun i hi => by have := h4.cell hi; simpa using this
/-! ### answers of books of flux -/
abbrev Fx (c : Int) (v : Value) (l : Int) : Value := .agg #[.int .i64 c, v, .int .i64 l]
set_option maxRecDepth 20000 in
theorem eqFlux_same {w : World} {v v' : Value} {n : Nat} {f : Nat → Int} {c l : Int} (h : RdRow w v n f) (h' : RdRow w v' n f) (hn : n ≤ 1000000000000) :
    Calls Try.prog 30 #[Fx c v l, Fx c v' l] w fun e w' => e = .returned (.bool true) ∧ Below w.heap.size w w' := by
  have HR : Hid (∀ W, Below w.heap.size w W → Calls Try.prog 35 #[v, v'] W fun e w' => e = .returned (.bool true) ∧ Below W.heap.size W w') := fun W b => (eqI_any (h.later b) (h'.later b) hn).mono fun _ _ h => drew_below h
  clear h h'
  obtain ⟨w2, hw2⟩ : ∃ W, W = (w.alloc (.cells #[.int .i64 c, v, .int .i64 l] 57)).alloc (.cells #[.int .i64 c, v', .int .i64 l] 57) := ⟨_, rfl⟩
  have B : Hid (Below w.heap.size w w2) := by show Below _ _ _; rw [hw2]; exact ((Below.refl _ _).alloc (Nat.le_refl _) _).alloc (by simp) _
  have c0 : Hid (Blk w2 w.heap.size #[.int .i64 c, v, .int .i64 l] 57) := by show Blk _ _ _ _; rw [hw2]; exact (Blk.new rfl).alloc _
  have c1 : Hid (Blk w2 (w.heap.size + 1) #[.int .i64 c, v', .int .i64 l] 57) := by show Blk _ _ _ _; rw [hw2]; exact Blk.new (by simp)
  go_enter Try.func30, Try.ntmps30
  go_wp2_with fail
  rw [← hw2]
  refine (HR.out _ B.out).mono ?_
  rintro e w3 ⟨rfl, b⟩
  have d0 := (c0.out.old b).cell (j := 2) (v := .int .i64 l) rfl
  have d1 := (c1.out.old b).cell (j := 2) (v := .int .i64 l) rfl
  have HB : Hid (Below w.heap.size w w3) := B.out.trans (b.mono B.out.size)
  clear hw2 B c0 c1 b HR
  go_wp2
  go_ret
  exact ⟨rfl, HB.out⟩
set_option maxRecDepth 20000 in
theorem markFlux_own {lo hi : Nat} {w : World} {v : Value} {n : Nat} {f : Nat → Int} {c l : Int} (h : OwS 2 lo hi w v n (fun i => .int .i64 (f i))) (hl : lo ≤ w.heap.size) (k0 : Int) (h0 : 0 ≤ k0) (h1 : k0 + n ≤ 1000000000000) :
    Calls Try.prog 31 #[Fx c v l, .int .i64 k0] w fun e w' => e = .returned (.int .i64 (k0 + n)) ∧ OwS 2 lo hi w' v n (fun i => .int .i64 (k0 + i)) ∧ Within lo hi w w' ∧ w.heap.size ≤ w'.heap.size := by
  obtain ⟨w2, hw2⟩ : ∃ W, W = w.alloc (.cells #[.int .i64 c, v, .int .i64 l] 57) := ⟨_, rfl⟩
  have hb : Below w.heap.size w w2 := by rw [hw2]; exact (Below.refl _ _).alloc (Nat.le_refl _) _
  have W0 : Within lo hi w w2 := (Within.refl lo hi w).later hb hl
  have HM : Hid (Calls Try.prog 87 #[v, .int .i64 k0] w2 fun e w' => e = .returned (.int .i64 (k0 + n)) ∧ (OwS 2 lo hi w' v n (fun i => .int .i64 (k0 + i)) ∧ Within lo hi w w' ∧ w.heap.size ≤ w'.heap.size)) := by
    refine (markI_own (h.later hb) k0 h0 h1).mono ?_
    rintro e w' ⟨rfl, a, b, z⟩
    exact ⟨rfl, a, W0.trans b, by have := hb.size; omega⟩
  clear h hb W0
  go_enter Try.func31, Try.ntmps31
  go_wp2_with fail
  rw [← hw2]
  refine HM.out.mono ?_
  rintro e w3 ⟨rfl, h9⟩
  replace h9 : Hid _ := h9
  go_wp2
  go_ret
  exact ⟨rfl, h9.out⟩
theorem heldFlux_own {lo hi : Nat} {w : World} {v : Value} {n : Nat} {c l : Int} {k0 : Int} (h : OwS 2 lo hi w v n (fun i => .int .i64 (k0 + i))) (h0 : 0 ≤ k0) (h1 : k0 + n ≤ 1000000000000) :
    Calls Try.prog 32 #[Fx c v l, .int .i64 k0] w fun e w' => e = .returned (.int .i64 (k0 + n)) ∧ Below w.heap.size w w' := by
  obtain ⟨w2, hw2⟩ : ∃ W, W = w.alloc (.cells #[.int .i64 c, v, .int .i64 l] 57) := ⟨_, rfl⟩
  have hb : Below w.heap.size w w2 := by rw [hw2]; exact (Below.refl _ _).alloc (Nat.le_refl _) _
  obtain ⟨M, hM⟩ : ∃ M : Int, M = k0 + n := ⟨_, rfl⟩
  have hM0 : ¬ M < 0 := by omega
  have HM : Hid (Calls Try.prog 88 #[v, .int .i64 k0] w2 fun e w' => e = .returned (.int .i64 M) ∧ w2 = w') := by
    rw [hM]
    exact heldI_own (h.later hb) h0 h1
  rw [← hM]
  have HB : Hid (Below w.heap.size w w2) := hb
  clear h hb hM h0 h1
  go_enter Try.func32, Try.ntmps32
  go_wp2_with fail
  rw [← hw2]
  clear hw2
  refine HM.out.mono ?_
  rintro e w3 ⟨rfl, rfl⟩
  go_wp2
  go_ret
  exact ⟨rfl, HB.out⟩
/-- What is answered: a code, a list of numbers in memory of its own, a number. -/
def FX (fn : FuncId) (args : Array Value) (w : World) (c : Int) (n : Nat) (F : Nat → Int) (l : Int) : Prop :=
  Calls Try.prog fn args w fun e w' => ∃ v, e = .returned (Fx c v l) ∧ OwS 2 w.heap.size w'.heap.size w' v n (fun i => .int .i64 (F i)) ∧ Below w.heap.size w w'
theorem step_push {ops : Array Oper} {o : Oper} {a : Act} {K : Act → World → Prop} {Q : Exit → Act → World → Prop} {E : Prop} (hgd : o.guard = none) (s x : Operand) (t : TypeId)
    (ho : o.op = .call { callee := .builtin .append, args := #[s, x], argTypes := #[t, t] }) (e : TypeId) (z : Value) (m bytes : Nat) (ht : Try.prog.underlying t = some (.slice e))
    (hinfo : (Try.prog.info? e).map (fun i => (i.zero, i.size, i.bytes)) = some (some z, m, bytes)) (hz1 : z.cells.size = m) (hm : 0 < m) (hby : bytes ≤ 100) (w : World) (us : List Value) (hul : us.length = m) (hu : ∀ u ∈ us, u.oneCell' = true)
    (base : Nat) (v : Value) (n : Nat) (xs : List Value) (hs : a.eval s = v) (hown : w.ownsRow base e m v n xs) (c : Nat) (hx : a.eval x = .slice (some ⟨w.heap.size, 0, none⟩) 1 c) (hn : n ≤ 1000000000) (hbase : base ≤ w.heap.size)
    (h : ∀ v' w', w'.ownsRow base e m v' (n + 1) (xs ++ us) → (w.alloc (.cells us.toArray e)).grownBy w' v.ownBlock → (∃ g cap, v' = .slice (some ⟨g, 0, none⟩) (n + 1) cap) → K (a.put o.dst v') w') :
    if Region.wanted o (yielded ops a.tmps) = true then Oper.wp Try.prog o a (w.alloc (.cells us.toArray e)) K Q else E := by
  obtain ⟨i, h1, h2, h3, h4⟩ := info_parts hinfo
  refine step_append_lies _ hgd s x t ho base e i z m bytes ht h1 h2 h3 h4 hz1 hm v n xs hs (hown.alloc _) ⟨w.heap.size, 0, none⟩ 1 c us hx (by omega) ?_ hu (by decide) ?_ ?_ ?_ _ rfl fun g cap w' a1 a2 _ _ => h _ w' a1 a2 ⟨g, cap, rfl⟩
  · intro j y hj
    have : (w.alloc (.cells us.toArray e)).heap[w.heap.size]? = some (.cells us.toArray e) := heap_alloc_new _ _
    have e0 : (⟨w.heap.size, 0, none⟩ : Addr).add j = ⟨w.heap.size, j, none⟩ := by
      unfold Addr.add
      split
      · rename_i h; subst h; rfl
      · simp
    rw [e0]
    unfold World.cell?
    rw [this]
    simpa using hj
  · unfold maxLen; omega
  · have : (n + 1) * bytes ≤ (n + 1) * 100 := Nat.mul_le_mul_left _ hby
    omega
  · simp; omega
/-- The numbers f, as values. -/
def il (f : Nat → Int) (n : Nat) : List Value := (List.range n).map (fun i => .int .i64 (f i))
theorem il_push (f : Nat → Int) (k : Nat) : il f k ++ [.int .i64 (f k)] = il f (k + 1) := by unfold il; rw [List.range_succ]; simp
theorem il_at (f : Nat → Int) {n i : Nat} (h : i < n) : (il f n)[i]? = some (.int .i64 (f i)) := by simp [il, h]
theorem owned_il {w : World} {base n : Nat} {v : Value} {f : Nat → Int} (h : w.ownsRow base 2 1 v n (il f n)) : OwS 2 base w.heap.size w v n (fun i => .int .i64 (f i)) := owned_seg h fun i hi => il_at f hi
/-- The seed behind k coins. -/
def cx (s : Int) : Nat → Int
  | 0 => s
  | k + 1 => (48271 * cx s k + 11) % 2147483647
theorem cx_bd {s : Int} (h0 : 0 ≤ s) (h1 : s < 2147483647) : ∀ k, 0 ≤ cx s k ∧ cx s k < 2147483647
  | 0 => ⟨h0, h1⟩
  | k + 1 => by unfold cx; omega
structure Ck (s n m : Int) : Prop where
  n0 : 0 ≤ n
  n1 : n ≤ 4096
  m0 : 1 ≤ m
  m1 : m ≤ 1000000000
  s0 : 0 ≤ s
  s1 : s < 2147483647
set_option maxRecDepth 20000 in
set_option maxHeartbeats 3200000 in
theorem iCoins_bad (s n m : Int) (h : ¬ Ck s n m) (w : World) : FX 121 #[.int .i64 s, .int .i64 n, .int .i64 m] w 1 0 (fun _ => 0) 0 := by
  have HG : Hid (¬ Ck s n m) := h
  clear h
  unfold FX
  go_enter Try.func121, Try.ntmps121
  by_cases h0 : n < 0
  · go_wp2
    refine bodyPost_ret (v := Fx 1 (.slice none 0 0) 0) (by simp [results, Try.results121, go_sem]) rfl ⟨_, rfl, Or.inl ⟨rfl, rfl⟩, by go_grown⟩
  by_cases h1 : 4096 < n
  · go_wp2
    refine bodyPost_ret (v := Fx 1 (.slice none 0 0) 0) (by simp [results, Try.results121, go_sem]) rfl ⟨_, rfl, Or.inl ⟨rfl, rfl⟩, by go_grown⟩
  by_cases h2 : m < 1
  · go_wp2
    refine bodyPost_ret (v := Fx 1 (.slice none 0 0) 0) (by simp [results, Try.results121, go_sem]) rfl ⟨_, rfl, Or.inl ⟨rfl, rfl⟩, by go_grown⟩
  by_cases h3 : 1000000000 < m
  · go_wp2
    refine bodyPost_ret (v := Fx 1 (.slice none 0 0) 0) (by simp [results, Try.results121, go_sem]) rfl ⟨_, rfl, Or.inl ⟨rfl, rfl⟩, by go_grown⟩
  by_cases h4 : s < 0
  · go_wp2
    refine bodyPost_ret (v := Fx 1 (.slice none 0 0) 0) (by simp [results, Try.results121, go_sem]) rfl ⟨_, rfl, Or.inl ⟨rfl, rfl⟩, by go_grown⟩
  by_cases h5 : 2147483647 ≤ s
  · go_wp2
    refine bodyPost_ret (v := Fx 1 (.slice none 0 0) 0) (by simp [results, Try.results121, go_sem]) rfl ⟨_, rfl, Or.inl ⟨rfl, rfl⟩, by go_grown⟩
  exact absurd ⟨by omega, by omega, by omega, by omega, by omega, by omega⟩ HG.out
set_option maxRecDepth 20000 in
set_option maxHeartbeats 3200000 in
theorem sCoins_bad (s n m : Int) (h : ¬ Ck s n m) (w : World) : FX 82 #[.int .i64 s, .int .i64 n, .int .i64 m] w 1 0 (fun _ => 0) 0 := by
  have HG : Hid (¬ Ck s n m) := h
  clear h
  unfold FX
  go_enter Try.func82, Try.ntmps82
  by_cases h0 : n < 0
  · go_wp2
    refine bodyPost_ret (v := Fx 1 (.slice none 0 0) 0) (by simp [results, Try.results82, go_sem]) rfl ⟨_, rfl, Or.inl ⟨rfl, rfl⟩, by go_grown⟩
  by_cases h1 : 4096 < n
  · go_wp2
    refine bodyPost_ret (v := Fx 1 (.slice none 0 0) 0) (by simp [results, Try.results82, go_sem]) rfl ⟨_, rfl, Or.inl ⟨rfl, rfl⟩, by go_grown⟩
  by_cases h2 : m < 1
  · go_wp2
    refine bodyPost_ret (v := Fx 1 (.slice none 0 0) 0) (by simp [results, Try.results82, go_sem]) rfl ⟨_, rfl, Or.inl ⟨rfl, rfl⟩, by go_grown⟩
  by_cases h3 : 1000000000 < m
  · go_wp2
    refine bodyPost_ret (v := Fx 1 (.slice none 0 0) 0) (by simp [results, Try.results82, go_sem]) rfl ⟨_, rfl, Or.inl ⟨rfl, rfl⟩, by go_grown⟩
  by_cases h4 : s < 0
  · go_wp2
    refine bodyPost_ret (v := Fx 1 (.slice none 0 0) 0) (by simp [results, Try.results82, go_sem]) rfl ⟨_, rfl, Or.inl ⟨rfl, rfl⟩, by go_grown⟩
  by_cases h5 : 2147483647 ≤ s
  · go_wp2
    refine bodyPost_ret (v := Fx 1 (.slice none 0 0) 0) (by simp [results, Try.results82, go_sem]) rfl ⟨_, rfl, Or.inl ⟨rfl, rfl⟩, by go_grown⟩
  exact absurd ⟨by omega, by omega, by omega, by omega, by omega, by omega⟩ HG.out
set_option maxRecDepth 20000 in
set_option maxHeartbeats 3200000 in
theorem iCoins_good (s m : Int) (n : Nat) (h : Ck s n m) (w : World) : FX 121 #[.int .i64 s, .int .i64 n, .int .i64 m] w 0 n (fun i => cx s (i + 1) % m) (cx s n) := by
  unfold FX
  obtain ⟨-, n1, m0, m1, s0, s1⟩ := h
  have CB : Hid (∀ k, 0 ≤ cx s k ∧ cx s k < 2147483647) := cx_bd s0 s1
  have hn : n ≤ 4096 := by omega
  have hmk := run_make_row' (P := Try.prog) 24 2 (.int .i64 0) 8 Try.underlying24 info2 rfl .i64 .i64 n (by omega) (by omega)
  have hm0 : m ≠ 0 := by omega
  go_enter Try.func121, Try.ntmps121
  go_wp2_with fail
  clear hmk
  go_loopw [8, 37] (fun x i wr => ∃ k : Nat, k ≤ n ∧ i = .int .i64 k ∧ x = .int .i64 (cx s k) ∧ Seg wr (w.heap.size + 1) 2 0 n (fun j => if j < k then .int .i64 (cx s (j + 1) % m) else .int .i64 0) ∧ Below w.heap.size w wr ∧ wr.heap.size = w.heap.size + 2 ∧ Blk wr w.heap.size #[.int .i64 0, .slice none 0 0, .int .i64 0] 57) (fun _ i _ => n - (intOf i).toNat)
  case atStart =>
    refine ⟨0, Nat.zero_le _, rfl, rfl, ?_, ((Below.refl _ _).alloc (Nat.le_refl _) _).alloc (by simp) _, by simp, (Blk.new rfl).alloc _⟩
    have h := seg_made (w.alloc (.cells #[.int .i64 0, .slice none 0 0, .int .i64 0] 57)) (.int .i64 0) n 2
    rw [show (w.alloc (.cells #[.int .i64 0, .slice none 0 0, .int .i64 0] 57)).heap.size = w.heap.size + 1 by simp] at h
    exact h.congr fun j _ => by simp
  case round =>
    obtain ⟨k, hk, rfl, rfl, hs, hb, hz, hbl⟩ := hrel
    by_cases hkn : k < n
    · have g2 : wr.cell? ⟨w.heap.size + 1, k, none⟩ = some (.int .i64 0) := by simpa using hs.cell hkn
      have g3 : wr.frozen? ⟨w.heap.size + 1, k, none⟩ = false := hs.frozen k
      have HS : Hid (Seg wr (w.heap.size + 1) 2 0 n (fun j => if j < k then .int .i64 (cx s (j + 1) % m) else .int .i64 0) ∧ Below w.heap.size w wr ∧ wr.heap.size = w.heap.size + 2 ∧ Blk wr w.heap.size #[.int .i64 0, .slice none 0 0, .int .i64 0] 57) := ⟨hs, hb, hz, hbl⟩
      obtain ⟨hX0, hX1⟩ := CB.out k
      obtain ⟨hY0, hY1⟩ := CB.out (k + 1)
      obtain ⟨X, hXe⟩ : ∃ X, X = cx s k := ⟨_, rfl⟩
      obtain ⟨Y, hYe⟩ : ∃ Y, Y = cx s (k + 1) := ⟨_, rfl⟩
      have r2 : (48271 * X + 11) % 2147483647 = Y := by rw [hXe, hYe]; rfl
      rw [← hXe] at hX0 hX1 ⊢
      rw [← hYe] at hY0 hY1
      have EY : Hid (Y = cx s (k + 1)) := hYe
      clear hXe hYe
      have t2 : (48271 * X + 11).tmod 2147483647 = Y := by rw [Int.tmod_eq_emod_of_nonneg (by omega)]; exact r2
      have t3 : Y.tmod m = Y % m := Int.tmod_eq_emod_of_nonneg hY0
      have hq0 := Int.emod_nonneg Y hm0
      have hq1 := Int.emod_lt_of_pos Y (show 0 < m by omega)
      clear hs hb hz hbl
      go_wp2
      go_roundw
      case rel =>
        obtain ⟨hs, hb, hz, hbl⟩ := HS.out
        refine ⟨k + 1, by omega, by simp, ?_, ?_, hb.setCell (by simp) _, by simpa using hz, hbl.setOther (by simp) _⟩
        · rw [EY.out]
        · have := hs.set k hkn (.int .i64 (Y % m))
          rw [Nat.zero_add] at this
          refine this.congr fun j hj => ?_
          by_cases e : j = k
          · subst e; simp [EY.out]
          · by_cases e2 : j < k
            · simp [e, e2, Nat.lt_succ_of_lt e2]
            · simp [e, e2]; intro h; omega
      case measure => simp [intOf]; omega
    · obtain rfl : k = n := by omega
      have c0 := hbl.cell (j := 0) (v := .int .i64 0) rfl
      have c1 := hbl.cell (j := 1) (v := .slice none 0 0) rfl
      have c2 := hbl.cell (j := 2) (v := .int .i64 0) rfl
      have f0 := hbl.frozen 0
      have f1 := hbl.frozen 1
      have f2 := hbl.frozen 2
      have HS : Hid (Seg wr (w.heap.size + 1) 2 0 k (fun j => if j < k then .int .i64 (cx s (j + 1) % m) else .int .i64 0) ∧ Below w.heap.size w wr ∧ wr.heap.size = w.heap.size + 2 ∧ Blk wr w.heap.size #[.int .i64 0, .slice none 0 0, .int .i64 0] 57) := ⟨hs, hb, hz, hbl⟩
      clear hs hb hz hbl
      go_wp2
      obtain ⟨hs, hb, hz, hbl⟩ := HS.out
      refine bodyPost_ret (v := Fx 0 (.slice (some ⟨w.heap.size + 1, 0, none⟩) k k) (cx s k)) (by simp [results, Try.results121, go_sem, c0, c1, c2]) rfl ⟨_, rfl, Or.inr ⟨w.heap.size + 1, k, rfl, by omega, by simp; omega, ?_⟩, by go_grown⟩
      exact (((hs.setOther (by simp) _).setOther (by simp) _).setOther (by simp) _).congr fun j hj => by simp [hj]
theorem caold {W : World} {o : Obj} {p : Addr} {v : Value} (h : W.cell? p = some v) : (W.alloc o).cell? p = some v := by rw [(Below.refl _ _ |>.alloc (Nat.le_refl _) o).cell (World.block_lt_of_cell? _ _ h)]; exact h
theorem owns_set {w : World} {base n m c j : Nat} {t : TypeId} {v x : Value} {xs : List Value} (h : w.ownsRow base t m v n xs) (hc : c < base) : (w.setCell ⟨c, j, none⟩ x).ownsRow base t m v n xs := by
  obtain ⟨h0, h | ⟨g, cap, cur, hv, hg, hh, r⟩⟩ := h
  · exact ⟨h0, Or.inl h⟩
  · exact ⟨h0, Or.inr ⟨g, cap, cur, hv, hg, (Below.heap_setCell _ _ _ _ (by simp; omega)).trans hh, r⟩⟩
structure Cb (w wr : World) (v : Value) (s m : Int) (k : Nat) : Prop where
  own : wr.ownsRow (w.heap.size + 2) 2 1 v k (il (fun i => cx s (i + 1) % m) k)
  box : Blk wr (w.heap.size + 1) #[.int .i64 0, v, .int .i64 (cx s k)] 57
  res : Blk wr w.heap.size #[.int .i64 0, .slice none 0 0, .int .i64 0] 57
  below : Below w.heap.size w wr
  lt : w.heap.size + 2 ≤ wr.heap.size
set_option maxRecDepth 20000 in
set_option maxHeartbeats 3200000 in
theorem sCoins_good (s m : Int) (n : Nat) (h : Ck s n m) (w : World) : FX 82 #[.int .i64 s, .int .i64 n, .int .i64 m] w 0 n (fun i => cx s (i + 1) % m) (cx s n) := by
  unfold FX
  obtain ⟨-, n1, m0, m1, s0, s1⟩ := h
  have CB : Hid (∀ k, 0 ≤ cx s k ∧ cx s k < 2147483647) := cx_bd s0 s1
  have hn : n ≤ 4096 := by omega
  have hm0 : m ≠ 0 := by omega
  go_enter Try.func82, Try.ntmps82
  go_wp2_with fail
  go_loopw [8] (fun i wr => ∃ (k : Nat) (v : Value), k ≤ n ∧ i = .int .i64 k ∧ Hid (Cb w wr v s m k)) (fun i _ => n - (intOf i).toNat)
  case atStart =>
    refine ⟨0, .slice none 0 0, Nat.zero_le _, rfl, ?_⟩
    exact ⟨owns_nil _ _ _ _, Blk.new (by simp), (Blk.new rfl).alloc _, ((Below.refl _ _).alloc (Nat.le_refl _) _).alloc (by simp) _, by simp⟩
  case round =>
    obtain ⟨k, v, hk, rfl, HB⟩ := hrel
    by_cases hkn : k < n
    · obtain ⟨hX0, hX1⟩ := CB.out k
      obtain ⟨hY0, hY1⟩ := CB.out (k + 1)
      have BX := HB.out.box
      obtain ⟨X, hXe⟩ : ∃ X, X = cx s k := ⟨_, rfl⟩
      obtain ⟨Y, hYe⟩ : ∃ Y, Y = cx s (k + 1) := ⟨_, rfl⟩
      have r2 : (48271 * X + 11) % 2147483647 = Y := by rw [hXe, hYe]; rfl
      rw [← hXe] at hX0 hX1 BX
      rw [← hYe] at hY0 hY1
      have EY : Hid (Y = cx s (k + 1)) := hYe
      clear hXe hYe
      have t2 : (48271 * X + 11).tmod 2147483647 = Y := by rw [Int.tmod_eq_emod_of_nonneg (by omega)]; exact r2
      have t3 : Y.tmod m = Y % m := Int.tmod_eq_emod_of_nonneg hY0
      have hq0 := Int.emod_nonneg Y hm0
      have hq1 := Int.emod_lt_of_pos Y (show 0 < m by omega)
      have c2 := BX.cell (j := 2) (v := .int .i64 X) rfl
      have f2 := BX.frozen 2
      have BX1 : Hid (Blk wr (w.heap.size + 1) #[.int .i64 0, v, .int .i64 X] 57) := BX
      clear BX
      go_upto_region 8 with fail
      obtain ⟨U, hU⟩ : ∃ W, W = wr.setCell ⟨w.heap.size + 1, 2, none⟩ (.int .i64 Y) := ⟨_, rfl⟩
      have O1 : Hid (U.drew.ownsRow (w.heap.size + 2) 2 1 v k (il (fun i => cx s (i + 1) % m) k)) := by show U.ownsRow _ _ _ _ _ _; rw [hU]; exact owns_set HB.out.own (by omega)
      have BU : Hid (Blk U.drew (w.heap.size + 1) #[.int .i64 0, v, .int .i64 Y] 57) := by show Blk _ _ _ _; rw [hU]; exact BX1.out.set 2 _ rfl
      have RU : Hid (Blk U.drew w.heap.size #[.int .i64 0, .slice none 0 0, .int .i64 0] 57) := by show Blk _ _ _ _; rw [hU]; exact HB.out.res.setOther (by simp) _
      have LU : Hid (Below w.heap.size w U.drew) := by show Below _ _ _; rw [hU]; exact (HB.out.below.setCell (by simp) _).drew
      have Z1 : Hid (w.heap.size + 2 ≤ U.drew.heap.size) := by show _ ≤ _; rw [hU]; simpa using HB.out.lt
      rw [← hU]
      clear hU BX1 c2 f2 HB
      have c1 := BU.out.cell (j := 1) (v := v) rfl
      have c2 := BU.out.cell (j := 2) (v := .int .i64 Y) rfl
      have hk9 : k ≤ 1000000000 := by omega

      have z1 : w.heap.size + 2 ≤ U.heap.size := Z1.out
      have d1 : U.cell? ⟨w.heap.size + 1, 1, none⟩ = some v := c1
      have d2 : U.cell? ⟨w.heap.size + 1, 2, none⟩ = some (.int .i64 Y) := c2
      have q1 : ∀ ob, (U.alloc ob).cell? ⟨w.heap.size + 1, 1, none⟩ = some v := fun ob => caold d1
      have q2 : ∀ ob, (U.alloc ob).cell? ⟨w.heap.size + 1, 2, none⟩ = some (.int .i64 Y) := fun ob => caold d2
      go_region_law (first | (refine step_push rfl (.tmp 46) (.tmp 51) 24 rfl 2 (.int .i64 0) 1 8 Try.underlying24 info2 rfl (by decide) (by decide) U.drew [.int .i64 (Y % m)] rfl (by intro u hu; simp at hu; subst hu; rfl) (w.heap.size + 2) v k _ (by simp [Act.eval]) O1.out 1 (by simp [Act.eval]) hk9 Z1.out ?_; rintro v1 w3 own3 grow3 ⟨g, cp, rfl⟩; have b3 : Below (w.heap.size + 2) U.drew w3 := push_below O1.out grow3 (Below.refl _ _) Z1.out; have b4 : Below (w.heap.size + 2) U w3 := ((Below.refl _ _).drew).trans b3; have B3 : Hid (Blk w3 (w.heap.size + 1) #[.int .i64 0, v, .int .i64 Y] 57) := (b3.block _ (by omega)).trans BU.out; have f1 := B3.out.frozen 1; have c1' := B3.out.cell (j := 1) (v := v) rfl))
      all_goals
        have HN : Hid (Cb w (w3.setCell ⟨w.heap.size + 1, 1, none⟩ (.slice (some ⟨g, 0, none⟩) (k + 1) cp)) (.slice (some ⟨g, 0, none⟩) (k + 1) cp) s m (k + 1)) := by
          have hh : Cb w (w3.setCell ⟨w.heap.size + 1, 1, none⟩ (.slice (some ⟨g, 0, none⟩) (k + 1) cp)) (.slice (some ⟨g, 0, none⟩) (k + 1) cp) s m (k + 1) := by
            refine ⟨owns_set ?_ (by omega), ?_, ?_, ?_, ?_⟩
            · rw [← il_push]
              show w3.ownsRow (w.heap.size + 2) 2 1 _ (k + 1) (il _ k ++ [.int .i64 (cx s (k + 1) % m)])
              rw [← EY.out]
              exact own3
            · rw [← EY.out]
              exact B3.out.set 1 _ rfl
            · exact Blk.setOther (show Blk w3 _ _ _ from (b3.block _ (by omega)).trans RU.out) (by simp) _
            · exact (LU.out.trans (b3.mono (by omega))).setCell (by simp) _
            · have := b3.size
              have := Z1.out
              simp
              omega
          exact hh
        clear own3 grow3 b3 b4 B3 f1 c1' RU LU BU O1 Z1 z1 q1 q2 d1 d2 c1 c2
        go_wp2
        refine ⟨⟨k + 1, _, by omega, by simp, HN⟩, by simp [intOf]; omega⟩
    · obtain rfl : k = n := by omega
      have b0 := HB.out.box.cell (j := 0) (v := .int .i64 0) rfl
      have b1 := HB.out.box.cell (j := 1) (v := v) rfl
      have b2 := HB.out.box.cell (j := 2) (v := .int .i64 (cx s k)) rfl
      have c0 := HB.out.res.cell (j := 0) (v := .int .i64 0) rfl
      have c1 := HB.out.res.cell (j := 1) (v := .slice none 0 0) rfl
      have c2 := HB.out.res.cell (j := 2) (v := .int .i64 0) rfl
      have f0 := HB.out.res.frozen 0
      have f1 := HB.out.res.frozen 1
      have f2 := HB.out.res.frozen 2
      have HO : Hid (OwS 2 (w.heap.size + 2) wr.heap.size wr v k (fun i => .int .i64 (cx s (i + 1) % m)) ∧ Below w.heap.size w wr) := ⟨owned_il HB.out.own, HB.out.below⟩
      obtain ⟨ao, cap, rfl⟩ := HO.out.1.form
      clear HB
      go_wp2
      refine bodyPost_ret (v := Fx 0 (.slice ao k cap) (cx s k)) (by simp [results, Try.results82, go_sem, c0, c1, c2]) rfl ⟨_, rfl, ?_, ((HO.out.2.setCell (by simp) _).setCell (by simp) _).setCell (by simp) _⟩
      rcases HO.out.1 with ⟨e1, e2⟩ | ⟨g, cp, e1, h1, h2, h3⟩
      · exact Or.inl ⟨e1, e2⟩
      · exact Or.inr ⟨g, cp, e1, by omega, by simpa using h2, ((h3.setOther (by simp; omega) _).setOther (by simp; omega) _).setOther (by simp; omega) _⟩
end Go.Proofs.Ytkkajcdjkfbcgaa
