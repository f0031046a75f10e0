/- Lists of numbers that a call builds by append: contracts of append, plain laws on worlds. -/
import Derived.Test.YtpkbpikdffbadaaDoorWl
import Derived.OwnWalk
import Derived.Laws.AppendOwn
import Derived.Deep.AppendLies
namespace Go.Proofs.YtpkbpikdffbadaaDoor
open Go.RowKit
set_option linter.unusedVariables false
theorem info_parts {e : TypeId} {z : Value} {m bytes : Nat} (h : (Tryd.prog.info? e).map (fun i => (i.zero, i.size, i.bytes)) = some (some z, m, bytes)) :
    ∃ i, Tryd.prog.info? e = some i ∧ i.zero = some z ∧ i.size = m ∧ i.bytes = bytes := by
  obtain ⟨i, hi, e⟩ := Option.map_eq_some_iff.1 h
  simp only [Prod.mk.injEq] at e
  exact ⟨i, hi, e.1, e.2.1, e.2.2⟩
/-- What append has built, read off its block. -/
theorem owned_seg {w : World} {base n : Nat} {t : TypeId} {v : Value} {f : Nat → Value} (h : w.ownsRow base t 1 v n ((List.range n).map f)) (hn : 0 < n) :
    ∃ g cap, v = .slice (some ⟨g, 0, none⟩) n cap ∧ base ≤ g ∧ Seg w g t 0 n f := by
  obtain ⟨_, h | ⟨g, cap, cur, hv, hg, hh, h1, h2, h3, h4⟩⟩ := h
  · omega
  · refine ⟨g, cap, hv, hg, cur, hh, fun i hi => ?_⟩
    rw [Nat.zero_add]
    have : (cur.toList.take (n * 1))[i]? = ((List.range n).map f)[i]? := by rw [h4]
    rw [Nat.mul_one, List.getElem?_take_of_lt hi] at this
    rw [← Array.getElem?_toList, this]
    simp [hi]
theorem range_push {α : Type} (f : Nat → α) (k : Nat) : (List.range k).map f ++ [f k] = (List.range (k + 1)).map f := by rw [List.range_succ]; simp
/-- A block that an append to a row of another type leaves as it was. -/
theorem Seg.grown {w w' : World} {b : Nat} {t : TypeId} {off n : Nat} {f : Nat → Value} {row : Option Nat} (h : Seg w b t off n f) (hg : w.grownBy w' row) (hr : ∀ g, row = some g → g ≠ b) : Seg w' b t off n f :=
  h.of_block (hg.block b h.lt fun e => hr b e.symm rfl)
theorem owns_later {w w' : World} {base n : Nat} {t : TypeId} {v : Value} {xs : List Value} (h : w.ownsRow base t 1 v n xs) (hb : Below w.heap.size w w') : w'.ownsRow base t 1 v n xs := by
  obtain ⟨h0, h | ⟨g, cap, cur, hv, hg, hh, r⟩⟩ := h
  · exact ⟨h0, Or.inl h⟩
  · exact ⟨h0, Or.inr ⟨g, cap, cur, hv, hg, (hb.block g (Array.getElem?_eq_some_iff.1 hh).1).trans hh, r⟩⟩
/-- The block that is appended to is of the row's type. -/
theorem owns_ne {w : World} {base n : Nat} {t t' : TypeId} {v : Value} {xs : List Value} (h : w.ownsRow base t 1 v n xs) {b off m : Nat} {f : Nat → Value} (hs : Seg w b t' off m f) (ht : t ≠ t') : ∀ g, v.ownBlock = some g → g ≠ b := by
  intro g hg e
  subst e
  obtain ⟨c, hb, _⟩ := hs
  obtain ⟨_, ⟨rfl, _⟩ | ⟨g', cap, cur, rfl, _, hh, _⟩⟩ := h
  · simp [Value.ownBlock] at hg
  · simp [Value.ownBlock] at hg
    subst hg
    rw [hh] at hb
    simp at hb
    exact ht hb.2
theorem owns_empty (w : World) (t : TypeId) : (w.alloc (.cells #[] t)).ownsRow w.heap.size t 1 (.slice (some ⟨w.heap.size, 0, none⟩) 0 0) 0 [] :=
  ⟨rfl, Or.inr ⟨w.heap.size, 0, #[], rfl, Nat.le_refl _, heap_alloc_new _ _, Nat.le_refl _, Nat.zero_le _, rfl, rfl⟩⟩
/-- Behind an append of one value: what was there below the row's own ground is as it was. -/
theorem push_below {w w1 W : World} {base n : Nat} {t : TypeId} {v : Value} {xs : List Value} {o : Obj} (h : w.ownsRow base t 1 v n xs) (hg : (w.alloc o).grownBy w1 v.ownBlock) (hb : Below base W w) (hB : base ≤ w.heap.size) : Below base W w1 :=
  (hb.alloc hB o).grown hg (by simp; omega) fun k hk => (h.lt k hk).1
/-- 'append(row, x)', one value of one cell, to a row that the call itself has built. -/
theorem push_law {ops : Array Oper} {rest : List Oper} {o : Oper} {a : Act} {Q : Exit → Act → World → Prop} (hgd : o.guard = none) (s x : Operand) (t : TypeId)
    (ho : o.op = .call { callee := .builtin .append, args := #[s, x], argTypes := #[t, t] }) (e : TypeId) (z : Value) (bytes : Nat) (ht : Tryd.prog.underlying t = some (.slice e))
    (hinfo : (Tryd.prog.info? e).map (fun i => (i.zero, i.size, i.bytes)) = some (some z, 1, bytes)) (hz1 : z.cells.size = 1) (hby : bytes ≤ 24) (w : World) (u : Value) (hu : u.oneCell' = true)
    (base : Nat) (v : Value) (n : Nat) (xs : List Value) (hs : a.eval s = v) (hown : w.ownsRow base e 1 v n xs) (c : Nat) (hx : a.eval x = .slice (some ⟨w.heap.size, 0, none⟩) 1 c) (hn : n ≤ 1000000) (hbase : base ≤ w.heap.size)
    (h : ∀ v' w', w'.ownsRow base e 1 v' (n + 1) (xs ++ [u]) → (w.alloc (.cells #[u] e)).grownBy w' v.ownBlock → wpList Tryd.prog ops Q rest (a.put o.dst v') w') : wpList Tryd.prog ops Q (o :: rest) a (w.alloc (.cells #[u] e)) := by
  obtain ⟨i, h1, h2, h3, h4⟩ := info_parts hinfo
  refine wpList_append_own _ hgd s x t ho base e i z 1 bytes ht h1 h2 h3 h4 hz1 (by decide) v n xs hs (hown.alloc _) ⟨w.heap.size, 0, none⟩ 1 c [u] hx rfl ?_ ?_ ?_ ?_ ?_ fun v' w' a1 a2 _ => h v' w' a1 a2
  · intro j y hj
    match j, hj with
    | 0, hj => simp at hj; subst hj; simp [Addr.add]
  · intro y hy
    simp at hy
    subst hy
    exact hu
  · unfold maxLen; omega
  · have : (n + 1) * bytes ≤ (n + 1) * 24 := Nat.mul_le_mul_left _ hby
    omega
  · simp; omega
/-- The same at a step of a region that draws its order. -/
theorem step_push {ops : Array Oper} {o : Oper} {a : Act} {K : Act → World → Prop} {Q : Exit → Act → World → Prop} {E : Prop} (hgd : o.guard = none) (s x : Operand) (t : TypeId)
    (ho : o.op = .call { callee := .builtin .append, args := #[s, x], argTypes := #[t, t] }) (e : TypeId) (z : Value) (bytes : Nat) (ht : Tryd.prog.underlying t = some (.slice e))
    (hinfo : (Tryd.prog.info? e).map (fun i => (i.zero, i.size, i.bytes)) = some (some z, 1, bytes)) (hz1 : z.cells.size = 1) (hby : bytes ≤ 24) (w : World) (u : Value) (hu : u.oneCell' = true)
    (base : Nat) (v : Value) (n : Nat) (xs : List Value) (hs : a.eval s = v) (hown : w.ownsRow base e 1 v n xs) (c : Nat) (hx : a.eval x = .slice (some ⟨w.heap.size, 0, none⟩) 1 c) (hn : n ≤ 1000000) (hbase : base ≤ w.heap.size)
    (h : ∀ v' w', w'.ownsRow base e 1 v' (n + 1) (xs ++ [u]) → (w.alloc (.cells #[u] e)).grownBy w' v.ownBlock → K (a.put o.dst v') w') :
    if Region.wanted o (yielded ops a.tmps) = true then Oper.wp Tryd.prog o a (w.alloc (.cells #[u] e)) K Q else E := by
  obtain ⟨i, h1, h2, h3, h4⟩ := info_parts hinfo
  refine step_append_lies _ hgd s x t ho base e i z 1 bytes ht h1 h2 h3 h4 hz1 (by decide) v n xs hs (hown.alloc _) ⟨w.heap.size, 0, none⟩ 1 c [u] hx rfl ?_ ?_ (by decide) ?_ ?_ ?_ _ rfl fun g cap w' a1 a2 _ _ => h _ w' a1 a2
  · intro j y hj
    match j, hj with
    | 0, hj => simp at hj; subst hj; simp [Addr.add]
  · intro y hy
    simp at hy
    subst hy
    exact hu
  · unfold maxLen; omega
  · have : (n + 1) * bytes ≤ (n + 1) * 24 := Nat.mul_le_mul_left _ hby
    omega
  · simp; omega
/-- The numbers f, as values. -/
def il (f : Nat → Int) (n : Nat) : List Value := (List.range n).map (fun i => .int .i64 (f i))
theorem il_push (f : Nat → Int) (k : Nat) : il f k ++ [.int .i64 (f k)] = il f (k + 1) := range_push _ k
theorem owned_rd {w : World} {base n : Nat} {v : Value} {f : Nat → Int} (h : w.ownsRow base 2 1 v n (il f n)) : RdRow w v n f := by
  by_cases hn : 0 < n
  · obtain ⟨g, cap, rfl, _, hs⟩ := owned_seg h hn
    exact hs.rd
  · obtain rfl : n = 0 := by omega
    obtain ⟨_, ⟨rfl, _⟩ | ⟨g, cap, cur, rfl, _⟩⟩ := h
    · exact Or.inl ⟨_, _, rfl, rfl⟩
    · exact Or.inl ⟨_, _, rfl, rfl⟩
/-- What a call has built: the result's cell at b, as it was made, and a list of k numbers. -/
structure Bd (w W : World) (v : Value) (k : Nat) (f : Nat → Int) : Prop where
  own : W.ownsRow (w.heap.size + 1) 2 1 v k (il f k)
  box : W.heap[w.heap.size]? = some (.cells #[.int .i64 0, .slice none 0 0] 24 (0, 0))
  below : Below w.heap.size w W
  lt : w.heap.size + 1 ≤ W.heap.size
theorem Bd.start (w : World) (f : Nat → Int) : Bd w ((w.alloc (.cells #[.int .i64 0, .slice none 0 0] 24)).alloc (.cells #[] 2)) (.slice (some ⟨w.heap.size + 1, 0, none⟩) 0 0) 0 f :=
  ⟨by have := owns_empty (w.alloc (.cells #[.int .i64 0, .slice none 0 0] 24)) 2; rw [show il f 0 = [] from rfl]; simpa using this, heap_alloc2_old _ _ _, ((Below.refl _ _).alloc (Nat.le_refl _) _).alloc (by simp) _, by simp⟩
theorem Bd.later {w W W' : World} {v : Value} {k : Nat} {f : Nat → Int} (h : Bd w W v k f) (hb : Below W.heap.size W W') : Bd w W' v k f :=
  ⟨owns_later h.own hb, (hb.block _ (by have := h.lt; omega)).trans h.box, h.below.trans (hb.mono (by have := h.lt; omega)), Nat.le_trans h.lt hb.size⟩
theorem Bd.push {w W W' : World} {v v' : Value} {k : Nat} {f : Nat → Int} (h : Bd w W v k f) {u : Value} (hu : u = .int .i64 (f k)) (ho : W'.ownsRow (w.heap.size + 1) 2 1 v' (k + 1) (il f k ++ [u])) (hg : (W.alloc (.cells #[u] 2)).grownBy W' v.ownBlock) : Bd w W' v' (k + 1) f := by
  subst hu
  have hb : Below (w.heap.size + 1) W W' := push_below h.own hg (Below.refl _ _) h.lt
  exact ⟨by rw [← il_push]; exact ho, (hb.block _ (by omega)).trans h.box, h.below.trans (hb.mono (by omega)), Nat.le_trans h.lt hb.size⟩
theorem Bd.c0 {w W : World} {v : Value} {k : Nat} {f : Nat → Int} (h : Bd w W v k f) : W.cell? ⟨w.heap.size, 0, none⟩ = some (.int .i64 0) := by simp [World.cell?, h.box]
theorem Bd.c1 {w W : World} {v : Value} {k : Nat} {f : Nat → Int} (h : Bd w W v k f) : W.cell? ⟨w.heap.size, 1, none⟩ = some (.slice none 0 0) := by simp [World.cell?, h.box]
theorem Bd.fz {w W : World} {v : Value} {k : Nat} {f : Nat → Int} (h : Bd w W v k f) (j : Nat) : W.frozen? ⟨w.heap.size, j, none⟩ = false := by simp [World.frozen?, h.box]
theorem Bd.shape {w W : World} {v : Value} {k : Nat} {f : Nat → Int} (h : Bd w W v k f) : ∃ g cap, v = .slice (some ⟨g, 0, none⟩) k cap ∨ (v = .slice none 0 0 ∧ k = 0) := by
  obtain ⟨_, ⟨rfl, h2⟩ | ⟨g, cap, cur, rfl, _⟩⟩ := h.own
  · exact ⟨0, 0, Or.inr ⟨rfl, h2⟩⟩
  · exact ⟨g, cap, Or.inl rfl⟩
/-- The result is told. -/
theorem Bd.told {w W : World} {v : Value} {k : Nat} {f : Nat → Int} (h : Bd w W v k f) (hk : 0 < k) (x y : Value) : OutL ((W.setCell ⟨w.heap.size, 0, none⟩ x).setCell ⟨w.heap.size, 1, none⟩ y) 0 v k f ∧ Below w.heap.size w ((W.setCell ⟨w.heap.size, 0, none⟩ x).setCell ⟨w.heap.size, 1, none⟩ y) := by
  obtain ⟨g, cap, rfl, hg, hs⟩ := owned_seg h.own hk
  exact ⟨Or.inr ⟨rfl, ((hs.setOther (by show g ≠ w.heap.size; omega) _).setOther (by show g ≠ w.heap.size; omega) _).rd⟩, (h.below.setCell (Nat.le_refl _) _).setCell (Nat.le_refl _) _⟩
end Go.Proofs.YtpkbpikdffbadaaDoor
