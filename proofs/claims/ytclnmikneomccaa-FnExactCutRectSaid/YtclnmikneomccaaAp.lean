/- Lists that a call builds by append: contracts of append, plain laws on worlds. -/
import Derived.Test.YtclnmikneomccaaVr
import Derived.OwnWalk
import Derived.Laws.AppendOwn
import Derived.Deep.AppendLies
import Derived.Deep.RegionLaw
import Derived.Deep.RegionHeld3
import Derived.Deep.DeepCutAuto
import Derived.Laws.Tables
import Derived.Handy
namespace Go.Proofs.Ytclnmikneomccaa
open Go.RowKit
set_option linter.unusedVariables false
/-- What append has built, read off its block. -/
theorem owned_seg {w : World} {base n : Nat} {t : TypeId} {v : Value} {f : Nat → Value} (h : w.ownsRow base t 1 v n ((List.range n).map f)) (hn : 0 < n) :
    ∃ g cap, v = .slice (some ⟨g, 0, none⟩) n cap ∧ base ≤ g ∧ Seg w g t 0 n f := by
  obtain ⟨_, h | ⟨g, cap, cur, hv, hg, hh, h1, h2, h3, h4⟩⟩ := h
  · omega
  · refine ⟨g, cap, hv, hg, cur, hh, fun i hi => ?_⟩
    rw [Nat.zero_add]
    have : (cur.toList.take (n * 1))[i]? = ((List.range n).map f)[i]? := by rw [h4]
    rw [Nat.mul_one, List.getElem?_take_of_lt hi] at this
    rw [← Array.getElem?_toList, this]
    simp [hi]
theorem range_push {α : Type} (f : Nat → α) (k : Nat) : (List.range k).map f ++ [f k] = (List.range (k + 1)).map f := by rw [List.range_succ]; simp
/-- A block that an append to a row of another type leaves as it was. -/
theorem Seg.grown {w w' : World} {b : Nat} {t : TypeId} {off n : Nat} {f : Nat → Value} {row : Option Nat} (h : Seg w b t off n f) (hg : w.grownBy w' row) (hr : ∀ g, row = some g → g ≠ b) : Seg w' b t off n f :=
  h.of_block (hg.block b h.lt fun e => hr b e.symm rfl)
theorem owns_later {w w' : World} {base n : Nat} {t : TypeId} {v : Value} {xs : List Value} (h : w.ownsRow base t 1 v n xs) (hb : Below w.heap.size w w') : w'.ownsRow base t 1 v n xs := by
  obtain ⟨h0, h | ⟨g, cap, cur, hv, hg, hh, r⟩⟩ := h
  · exact ⟨h0, Or.inl h⟩
  · exact ⟨h0, Or.inr ⟨g, cap, cur, hv, hg, (hb.block g (Array.getElem?_eq_some_iff.1 hh).1).trans hh, r⟩⟩
/-- The block that is appended to is of the row's type. -/
theorem owns_ne {w : World} {base n : Nat} {t t' : TypeId} {v : Value} {xs : List Value} (h : w.ownsRow base t 1 v n xs) {b off m : Nat} {f : Nat → Value} (hs : Seg w b t' off m f) (ht : t ≠ t') : ∀ g, v.ownBlock = some g → g ≠ b := by
  intro g hg e
  subst e
  obtain ⟨c, hb, _⟩ := hs
  obtain ⟨_, ⟨rfl, _⟩ | ⟨g', cap, cur, rfl, _, hh, _⟩⟩ := h
  · simp [Value.ownBlock] at hg
  · simp [Value.ownBlock] at hg
    subst hg
    rw [hh] at hb
    simp at hb
    exact ht hb.2
theorem owns_empty (w : World) (t : TypeId) : (w.alloc (.cells #[] t)).ownsRow w.heap.size t 1 (.slice (some ⟨w.heap.size, 0, none⟩) 0 0) 0 [] :=
  ⟨rfl, Or.inr ⟨w.heap.size, 0, #[], rfl, Nat.le_refl _, heap_alloc_new _ _, Nat.le_refl _, Nat.zero_le _, rfl, rfl⟩⟩
/-- Behind an append of one value: what was there below the row's own ground is as it was. -/
theorem push_below {w w1 W : World} {base n : Nat} {t : TypeId} {v : Value} {xs : List Value} {o : Obj} (h : w.ownsRow base t 1 v n xs) (hg : (w.alloc o).grownBy w1 v.ownBlock) (hb : Below base W w) (hB : base ≤ w.heap.size) : Below base W w1 :=
  (hb.alloc hB o).grown hg (by simp; omega) fun k hk => (h.lt k hk).1
/-- 'append(row, x)', one value of one cell, to a row that the call itself has built. -/
theorem push_law {ops : Array Oper} {rest : List Oper} {o : Oper} {a : Act} {Q : Exit → Act → World → Prop} (hgd : o.guard = none) (s x : Operand) (t : TypeId)
    (ho : o.op = .call { callee := .builtin .append, args := #[s, x], argTypes := #[t, t] }) (e : TypeId) (z : Value) (bytes : Nat) (ht : Try.prog.underlying t = some (.slice e))
    (hinfo : (Try.prog.info? e).map (fun i => (i.zero, i.size, i.bytes)) = some (some z, 1, bytes)) (hz1 : z.cells.size = 1) (hby : bytes ≤ 24) (w : World) (u : Value) (hu : u.oneCell' = true)
    (base : Nat) (v : Value) (n : Nat) (xs : List Value) (hs : a.eval s = v) (hown : w.ownsRow base e 1 v n xs) (c : Nat) (hx : a.eval x = .slice (some ⟨w.heap.size, 0, none⟩) 1 c) (hn : n ≤ 2000000) (hbase : base ≤ w.heap.size)
    (h : ∀ v' w', w'.ownsRow base e 1 v' (n + 1) (xs ++ [u]) → (w.alloc (.cells #[u] e)).grownBy w' v.ownBlock → wpList Try.prog ops Q rest (a.put o.dst v') w') : wpList Try.prog ops Q (o :: rest) a (w.alloc (.cells #[u] e)) := by
  obtain ⟨i, h1, h2, h3, h4⟩ := info_parts hinfo
  refine wpList_append_own _ hgd s x t ho base e i z 1 bytes ht h1 h2 h3 h4 hz1 (by decide) v n xs hs (hown.alloc _) ⟨w.heap.size, 0, none⟩ 1 c [u] hx rfl ?_ ?_ ?_ ?_ ?_ fun v' w' a1 a2 _ => h v' w' a1 a2
  · intro j y hj
    match j, hj with
    | 0, hj => simp at hj; subst hj; simp [Addr.add]
  · intro y hy
    simp at hy
    subst hy
    exact hu
  · unfold maxLen; omega
  · have : (n + 1) * bytes ≤ (n + 1) * 24 := Nat.mul_le_mul_left _ hby
    omega
  · simp; omega
/-- What append has built, its room told too. -/
theorem owned_seg2 {w : World} {base n : Nat} {t : TypeId} {v : Value} {f : Nat → Value} (h : w.ownsRow base t 1 v n ((List.range n).map f)) (hn : 0 < n) :
    ∃ g cap, v = .slice (some ⟨g, 0, none⟩) n cap ∧ base ≤ g ∧ n ≤ cap ∧ Seg w g t 0 n f := by
  obtain ⟨g, cap, hv, hg, hs⟩ := owned_seg h hn
  obtain ⟨_, h | ⟨g', cap', cur, hv', _, _, h1, _⟩⟩ := h
  · omega
  · rw [hv] at hv'
    simp at hv'
    exact ⟨g, cap, hv, hg, by omega, hs⟩
/-- 'append(row, x)' as one step of a region that draws its order. -/
theorem step_push {ops : Array Oper} {o : Oper} {a : Act} {K : Act → World → Prop} {Q : Exit → Act → World → Prop} {E : Prop} (hg : o.guard = none) (s x : Operand) (t : TypeId)
    (hop : o.op = Op.call { callee := Callee.builtin Builtin.append, args := #[s, x], argTypes := #[t, t] }) (e : TypeId) (z : Value) (bytes : Nat) (ht : Try.prog.underlying t = some (.slice e))
    (hinfo : (Try.prog.info? e).map (fun i => (i.zero, i.size, i.bytes)) = some (some z, 1, bytes)) (hz1 : z.cells.size = 1) (hby : bytes ≤ 24) {W : World} (w : World) (u : Value) (hW : W = w.alloc (.cells #[u] e)) (hu : u.oneCell' = true)
    (base : Nat) (v : Value) (n : Nat) (xs : List Value) (hs : a.eval s = v) (hown : w.ownsRow base e 1 v n xs) (c : Nat) (hx : a.eval x = .slice (some ⟨w.heap.size, 0, none⟩) 1 c) (hn : n ≤ 2000000) (hbase : base ≤ w.heap.size)
    (hK : ∀ v' w', w'.ownsRow base e 1 v' (n + 1) (xs ++ [u]) → (w.alloc (.cells #[u] e)).grownBy w' v.ownBlock → K (a.put o.dst v') w') :
    if Region.wanted o (yielded ops a.tmps) = true then Oper.wp Try.prog o a W K Q else E := by
  subst hW
  have hw : Region.wanted o (yielded ops a.tmps) = true := by simp [Region.wanted, hg]
  rw [if_pos hw]
  obtain ⟨i, h1, h2, h3, h4⟩ := info_parts hinfo
  obtain ⟨v', w', hrun, r1, r2, _⟩ := run_append_own (P := Try.prog) (w.alloc (.cells #[u] e)) base t o.type e i z 1 bytes ht h1 h2 h3 h4 hz1 (by decide) v n xs (hown.alloc _) ⟨w.heap.size, 0, none⟩ 1 c [u] rfl
    (by
      intro j y hj
      match j, hj with
      | 0, hj => simp at hj; subst hj; simp [Addr.add])
    (by intro y hy; simp at hy; subst hy; exact hu) (by unfold maxLen; omega)
    (by have : (n + 1) * bytes ≤ (n + 1) * 24 := Nat.mul_le_mul_left _ hby
        omega) (by simp; omega)
  unfold Oper.wp
  simp [execOp, hop, resolve, invoke, builtin, hs, hx, hrun, Result.andThen]
  exact hK v' w' r1 r2
theorem owns_one (w : World) (t : TypeId) (u : Value) : (w.alloc (.cells #[u] t)).ownsRow w.heap.size t 1 (.slice (some ⟨w.heap.size, 0, none⟩) 1 1) 1 [u] :=
  ⟨rfl, Or.inr ⟨w.heap.size, 1, #[u], rfl, Nat.le_refl _, heap_alloc_new _ _, Nat.le_refl _, by decide, rfl, rfl⟩⟩
end Go.Proofs.Ytclnmikneomccaa
