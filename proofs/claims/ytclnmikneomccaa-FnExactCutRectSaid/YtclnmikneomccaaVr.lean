/- Memory that holds rows of values of several cells each: what is read, what is owned; append of one value of some cells. -/
import Derived.Test.YtclnmikneomccaaBk
import Derived.OwnWalk
import Derived.Laws.AppendOwn
namespace Go.Proofs.Ytclnmikneomccaa
open Go.RowKit
set_option linter.unusedVariables false
theorem idx_inj {m i j k l : Nat} (hj : j < m) (hl : l < m) (h : i * m + j = k * m + l) : i = k ∧ j = l := by
  have e1 : (i * m + j) / m = i := by rw [Nat.mul_comm, Nat.mul_add_div (by omega), Nat.div_eq_of_lt hj]; omega
  have e2 : (k * m + l) / m = k := by rw [Nat.mul_comm, Nat.mul_add_div (by omega), Nat.div_eq_of_lt hl]; omega
  rw [h, e2] at e1
  subst e1
  exact ⟨rfl, by omega⟩
theorem idx_lt {m i j n : Nat} (hj : j < m) (hi : i < n) : i * m + j < n * m := by
  have := Nat.mul_le_mul_right m (show i + 1 ≤ n by omega)
  rw [Nat.add_mul] at this
  omega
theorem made_cell {z : Array Value} {N k : Nat} (hk : k < N) : (madeCells z N)[k]? = some z[k % z.size]! := by
  unfold madeCells
  rw [Array.getElem?_map, Array.getElem?_range]
  simp [hk]
/-- v is a slice of n values of m cells, to be read. -/
def RdV (w : World) (v : Value) (n m : Nat) (f : Nat → Nat → Value) : Prop :=
  (∃ ao cap, v = .slice ao 0 cap ∧ n = 0) ∨ ∃ b off cap, v = .slice (some ⟨b, off, none⟩) n cap ∧ ∀ i, i < n → ∀ j, j < m → w.cell? ⟨b, off + i * m + j, none⟩ = some (f i j)
theorem RdV.later {w w' : World} {v : Value} {n m : Nat} {f : Nat → Nat → Value} (h : RdV w v n m f) (hb : Below w.heap.size w w') : RdV w' v n m f := by
  rcases h with h | ⟨b, off, cap, rfl, h⟩
  · exact Or.inl h
  · exact Or.inr ⟨b, off, cap, rfl, fun i hi j hj => (hb.cell (World.block_lt_of_cell? _ _ (h i hi j hj))).trans (h i hi j hj)⟩
theorem RdV.form {w : World} {v : Value} {n m : Nat} {f : Nat → Nat → Value} (h : RdV w v n m f) : ∃ ao cap, v = .slice ao n cap := by
  rcases h with ⟨ao, cap, rfl, rfl⟩ | ⟨b, off, cap, rfl, _⟩
  · exact ⟨ao, cap, rfl⟩
  · exact ⟨_, cap, rfl⟩
/-- Block b is a row of n values of m cells, none frozen. -/
def SegV (w : World) (b : Nat) (t : TypeId) (n m : Nat) (f : Nat → Nat → Value) : Prop :=
  ∃ c : Array Value, w.heap[b]? = some (.cells c t (0, 0)) ∧ ∀ i, i < n → ∀ j, j < m → c[i * m + j]? = some (f i j)
namespace SegV
variable {w : World} {b : Nat} {t : TypeId} {n m : Nat} {f g : Nat → Nat → Value}
theorem cell (h : SegV w b t n m f) {i j : Nat} (hi : i < n) (hj : j < m) : w.cell? ⟨b, i * m + j, none⟩ = some (f i j) := by
  obtain ⟨c, hb, hc⟩ := h
  simp [World.cell?, hb, hc i hi j hj]
theorem frozen (h : SegV w b t n m f) (i : Nat) : w.frozen? ⟨b, i, none⟩ = false := by
  obtain ⟨c, hb, _⟩ := h
  simp [World.frozen?, hb]
theorem lt (h : SegV w b t n m f) : b < w.heap.size := by
  obtain ⟨c, hb, _⟩ := h
  exact (Array.getElem?_eq_some_iff.1 hb).1
theorem congr (h : SegV w b t n m f) (e : ∀ i, i < n → ∀ j, j < m → f i j = g i j) : SegV w b t n m g := by
  obtain ⟨c, hb, hc⟩ := h
  exact ⟨c, hb, fun i hi j hj => by rw [hc i hi j hj, e i hi j hj]⟩
theorem of_block {w' : World} (h : SegV w b t n m f) (e : w'.heap[b]? = w.heap[b]?) : SegV w' b t n m f := by
  obtain ⟨c, hb, hc⟩ := h
  exact ⟨c, e.trans hb, hc⟩
theorem below {w' : World} (h : SegV w b t n m f) (hb : Below w.heap.size w w') : SegV w' b t n m f := h.of_block (hb.block _ h.lt)
theorem set (h : SegV w b t n m f) {k l : Nat} (hk : k < n) (hl : l < m) (x : Value) : SegV (w.setCell ⟨b, k * m + l, none⟩ x) b t n m (fun i j => if i = k ∧ j = l then x else f i j) := by
  obtain ⟨c, hb, hc⟩ := h
  refine ⟨c.setIfInBounds (k * m + l) x, ?_, fun i hi j hj => ?_⟩
  · simp [World.setCell, Array.getElem?_modify, hb]
  · have hs : k * m + l < c.size := (Array.getElem?_eq_some_iff.1 (hc k hk l hl)).1
    rw [Array.getElem?_setIfInBounds]
    by_cases e : i = k ∧ j = l
    · obtain ⟨rfl, rfl⟩ := e
      simp [hs]
    · rw [if_neg (fun h => e (by have := idx_inj hl hj h; exact ⟨this.1.symm, this.2.symm⟩))]
      simp only [e, if_false]
      exact hc i hi j hj
end SegV
theorem SegV.rd {w : World} {b : Nat} {t : TypeId} {n m cap : Nat} {f : Nat → Nat → Value} (h : SegV w b t n m f) : RdV w (.slice (some ⟨b, 0, none⟩) n cap) n m f :=
  Or.inr ⟨b, 0, cap, rfl, fun i hi j hj => by rw [Nat.zero_add]; exact h.cell hi hj⟩
theorem SegV.keep {w w' : World} {b B : Nat} {t : TypeId} {n m : Nat} {f : Nat → Nat → Value} (h : SegV w b t n m f) (k : Below B w w') (hb : b < B) : SegV w' b t n m f := h.of_block (k.block _ hb)
theorem RdV.keep {w w' : World} {v : Value} {B n m : Nat} {f : Nat → Nat → Value} (h : RdV w v n m f) (k : Below B w w') (hv : ∀ b off cap, v = .slice (some ⟨b, off, none⟩) n cap → b < B) : RdV w' v n m f := by
  rcases h with h | ⟨b, off, cap, rfl, h⟩
  · exact Or.inl h
  · exact Or.inr ⟨b, off, cap, rfl, fun i hi j hj => (k.cell (hv b off cap rfl)).trans (h i hi j hj)⟩
theorem SegV.setOther {w : World} {b c o : Nat} {t : TypeId} {n m : Nat} {f : Nat → Nat → Value} (h : SegV w b t n m f) (hne : b ≠ c) (x : Value) : SegV (w.setCell ⟨c, o, none⟩ x) b t n m f :=
  h.of_block (Below.heap_setCell _ _ _ _ (by simpa using hne))
theorem infoV_parts {e : TypeId} {z : Value} {m bytes : Nat} (h : (Try.prog.info? e).map (fun i => (i.zero, i.size, i.bytes)) = some (some z, m, bytes)) :
    ∃ i, Try.prog.info? e = some i ∧ i.zero = some z ∧ i.size = m ∧ i.bytes = bytes := by
  obtain ⟨i, hi, e⟩ := Option.map_eq_some_iff.1 h
  simp only [Prod.mk.injEq] at e
  exact ⟨i, hi, e.1, e.2.1, e.2.2⟩
theorem ownsV_later {w w' : World} {base n m : Nat} {t : TypeId} {v : Value} {xs : List Value} (h : w.ownsRow base t m v n xs) (hb : Below w.heap.size w w') : w'.ownsRow base t m v n xs := by
  obtain ⟨h0, h | ⟨g, cap, cur, hv, hg, hh, r⟩⟩ := h
  · exact ⟨h0, Or.inl h⟩
  · exact ⟨h0, Or.inr ⟨g, cap, cur, hv, hg, (hb.block g (Array.getElem?_eq_some_iff.1 hh).1).trans hh, r⟩⟩
theorem ownsV_empty (w : World) (t : TypeId) (m : Nat) : (w.alloc (.cells #[] t)).ownsRow w.heap.size t m (.slice (some ⟨w.heap.size, 0, none⟩) 0 0) 0 [] :=
  ⟨by simp, Or.inr ⟨w.heap.size, 0, #[], rfl, Nat.le_refl _, heap_alloc_new _ _, Nat.le_refl _, Nat.zero_le _, by simp, by simp⟩⟩
theorem ownsV_nil (w : World) (base : Nat) (t : TypeId) (m : Nat) : w.ownsRow base t m (.slice none 0 0) 0 [] := ⟨by simp, Or.inl ⟨rfl, rfl⟩⟩
theorem pushV_below {w w1 W : World} {base n m : Nat} {t : TypeId} {v : Value} {xs : List Value} {o : Obj} (h : w.ownsRow base t m v n xs) (hg : (w.alloc o).grownBy w1 v.ownBlock) (hb : Below base W w) (hB : base ≤ w.heap.size) : Below base W w1 :=
  (hb.alloc hB o).grown hg (by simp; omega) fun k hk => (h.lt k hk).1
theorem pushV {ops : Array Oper} {rest : List Oper} {o : Oper} {a : Act} {Q : Exit → Act → World → Prop} (hgd : o.guard = none) (s x : Operand) (t : TypeId)
    (ho : o.op = .call { callee := .builtin .append, args := #[s, x], argTypes := #[t, t] }) (e : TypeId) (z : Value) (m bytes : Nat) (ht : Try.prog.underlying t = some (.slice e))
    (hinfo : (Try.prog.info? e).map (fun i => (i.zero, i.size, i.bytes)) = some (some z, m, bytes)) (hz1 : z.cells.size = m) (hm : 0 < m) (hby : bytes ≤ 100) (w : World) (us : List Value) (hul : us.length = m) (hu : ∀ u ∈ us, u.oneCell' = true)
    (base : Nat) (v : Value) (n : Nat) (xs : List Value) (hs : a.eval s = v) (hown : w.ownsRow base e m v n xs) (c : Nat) (hx : a.eval x = .slice (some ⟨w.heap.size, 0, none⟩) 1 c) (hn : n ≤ 1000000000) (hbase : base ≤ w.heap.size)
    (h : ∀ v' w', w'.ownsRow base e m v' (n + 1) (xs ++ us) → (w.alloc (.cells us.toArray e)).grownBy w' v.ownBlock → v' ≠ .slice none 0 0 → wpList Try.prog ops Q rest (a.put o.dst v') w') : wpList Try.prog ops Q (o :: rest) a (w.alloc (.cells us.toArray e)) := by
  obtain ⟨i, h1, h2, h3, h4⟩ := infoV_parts hinfo
  refine wpList_append_own _ hgd s x t ho base e i z m bytes ht h1 h2 h3 h4 hz1 hm v n xs hs (hown.alloc _) ⟨w.heap.size, 0, none⟩ 1 c us hx (by omega) ?_ hu ?_ ?_ ?_ fun v' w' a1 a2 a3 => h v' w' a1 a2 ?_
  · intro j y hj
    have : (w.alloc (.cells us.toArray e)).heap[w.heap.size]? = some (.cells us.toArray e) := heap_alloc_new _ _
    have e0 : (⟨w.heap.size, 0, none⟩ : Addr).add j = ⟨w.heap.size, j, none⟩ := by
      unfold Addr.add
      split
      · rename_i h; subst h; rfl
      · simp
    rw [e0]
    unfold World.cell?
    rw [this]
    simpa using hj
  · unfold maxLen; omega
  · have : (n + 1) * bytes ≤ (n + 1) * 100 := Nat.mul_le_mul_left _ hby
    omega
  · simp; omega
  · intro e
    have := (a3.1 e).2
    omega
/-- Values of m cells each, one behind another. -/
def flat (F : Nat → List Value) (n : Nat) : List Value := (List.range n).flatMap F
theorem flat_zero (F : Nat → List Value) : flat F 0 = [] := rfl
theorem flat_succ (F : Nat → List Value) (n : Nat) : flat F (n + 1) = flat F n ++ F n := by
  unfold flat
  rw [List.range_succ, List.flatMap_append]
  simp
theorem flat_len {F : Nat → List Value} {m : Nat} (h : ∀ i, (F i).length = m) : ∀ n, (flat F n).length = n * m
  | 0 => by simp [flat_zero]
  | n + 1 => by rw [flat_succ, List.length_append, flat_len h n, h, Nat.succ_mul]
theorem flat_at {F : Nat → List Value} {m : Nat} (h : ∀ i, (F i).length = m) : ∀ {n i j : Nat}, i < n → j < m → (flat F n)[i * m + j]? = (F i)[j]?
  | 0, _, _, hi, _ => absurd hi (Nat.not_lt_zero _)
  | n + 1, i, j, hi, hj => by
    rw [flat_succ]
    by_cases e : i < n
    · rw [List.getElem?_append_left (by rw [flat_len h]; exact idx_lt hj e)]
      exact flat_at h e hj
    · obtain rfl : i = n := by omega
      rw [List.getElem?_append_right (by rw [flat_len h]; omega), flat_len h]
      congr 1
      omega
/-- What append has built, read off its block. -/
theorem owned_segV {w : World} {base n m : Nat} {t : TypeId} {v : Value} {F : Nat → List Value} {f : Nat → Nat → Value} (hF : ∀ i, (F i).length = m) (hf : ∀ i, i < n → ∀ j, j < m → (F i)[j]? = some (f i j)) (h : w.ownsRow base t m v n (flat F n)) (hv : v ≠ .slice none 0 0) :
    ∃ g cap, v = .slice (some ⟨g, 0, none⟩) n cap ∧ base ≤ g ∧ SegV w g t n m f := by
  obtain ⟨_, h | ⟨g, cap, cur, hv, hg, hh, h1, h2, h3, h4⟩⟩ := h
  · exact absurd h.1 hv
  · refine ⟨g, cap, hv, hg, cur, hh, fun i hi j hj => ?_⟩
    have hl : i * m + j < n * m := idx_lt hj hi
    rw [← hf i hi j hj, ← flat_at hF hi hj, ← h4, List.getElem?_take_of_lt hl, ← Array.getElem?_toList]
theorem ownsV_made (w : World) (z : Array Value) (n m : Nat) (t : TypeId) (hn : n ≤ maxLen) : (w.alloc (.cells (madeCells z (n * m)) t)).ownsRow w.heap.size t m (.slice (some ⟨w.heap.size, 0, none⟩) 0 n) 0 [] :=
  ⟨by simp, Or.inr ⟨w.heap.size, n, _, rfl, Nat.le_refl _, heap_alloc_new _ _, Nat.zero_le _, hn, by unfold madeCells; simp, by simp⟩⟩
/-- A row that is read, at one place of it. -/
theorem RdV.at {w : World} {ao : Option Addr} {n m cap : Nat} {f : Nat → Nat → Value} (h : RdV w (.slice ao n cap) n m f) {k : Nat} (hk : k < n) : ∃ b off, ao = some ⟨b, off, none⟩ ∧ ∀ j, j < m → w.cell? ⟨b, off + k * m + j, none⟩ = some (f k j) := by
  rcases h with ⟨ao', cap', _, e⟩ | ⟨b, off, cap', e, hc⟩
  · omega
  · simp only [Value.slice.injEq] at e
    exact ⟨b, off, e.1, fun j hj => hc k hk j hj⟩
theorem RdRow.at {w : World} {ao : Option Addr} {n cap : Nat} {f : Nat → Int} (h : RdRow w (.slice ao n cap) n f) {k : Nat} (hk : k < n) : ∃ b off, ao = some ⟨b, off, none⟩ ∧ w.cell? ⟨b, off + k, none⟩ = some (.int .i64 (f k)) := by
  rcases h with ⟨ao', cap', _, e⟩ | ⟨b, off, cap', e, hc⟩
  · omega
  · simp only [Value.slice.injEq] at e
    exact ⟨b, off, e.1, hc k hk⟩
theorem SegV.later {W W' : World} {b : Nat} {t : TypeId} {n m : Nat} {f : Nat → Nat → Value} (h : SegV W b t n m f) (k : Below W.heap.size W W') : SegV W' b t n m f := h.below k

end Go.Proofs.Ytclnmikneomccaa
