/- The specification's sorting of a list of floats: a contract. -/
import Derived.Test.YtbhpdlhmkmkbhaaSorted
import Derived.Test.YtbhpdlhmkmkbhaaSrtTwo
import Derived.Test.YtbhpdlhmkmkbhaaSliceOp
import Derived.OwnWalk
import Derived.Laws.AppendOwn
namespace Go.Proofs.Ytbhpdlhmkmkbhaa
open Go.RowKit Fl Sr
set_option linter.unusedVariables false
/-- What append has built, read off its block. -/
theorem owned_seg {w : World} {base n : Nat} {t : TypeId} {v : Value} {f : Nat → Value} (h : w.ownsRow base t 1 v n ((List.range n).map f)) (hv : v ≠ .slice none 0 0) :
    ∃ g cap, v = .slice (some ⟨g, 0, none⟩) n cap ∧ base ≤ g ∧ Seg w g t 0 n f := by
  obtain ⟨_, h | ⟨g, cap, cur, hv, hg, hh, h1, h2, h3, h4⟩⟩ := h
  · exact absurd h.1 hv
  · refine ⟨g, cap, hv, hg, cur, hh, fun i hi => ?_⟩
    rw [Nat.zero_add]
    have : (cur.toList.take (n * 1))[i]? = ((List.range n).map f)[i]? := by rw [h4]
    rw [Nat.mul_one, List.getElem?_take_of_lt hi] at this
    rw [← Array.getElem?_toList, this]
    simp [hi]
theorem owns_later {w w' : World} {base n : Nat} {t : TypeId} {v : Value} {xs : List Value} (h : w.ownsRow base t 1 v n xs) (hb : Below w.heap.size w w') : w'.ownsRow base t 1 v n xs := by
  obtain ⟨h0, h | ⟨g, cap, cur, hv, hg, hh, r⟩⟩ := h
  · exact ⟨h0, Or.inl h⟩
  · exact ⟨h0, Or.inr ⟨g, cap, cur, hv, hg, (hb.block g (Array.getElem?_eq_some_iff.1 hh).1).trans hh, r⟩⟩
theorem owns_empty (w : World) (t : TypeId) : (w.alloc (.cells #[] t)).ownsRow w.heap.size t 1 (.slice (some ⟨w.heap.size, 0, none⟩) 0 0) 0 [] :=
  ⟨rfl, Or.inr ⟨w.heap.size, 0, #[], rfl, Nat.le_refl _, heap_alloc_new _ _, Nat.le_refl _, Nat.zero_le _, rfl, rfl⟩⟩
theorem push_below {w w1 W : World} {base n : Nat} {t : TypeId} {v : Value} {xs : List Value} {o : Obj} (h : w.ownsRow base t 1 v n xs) (hg : (w.alloc o).grownBy w1 v.ownBlock) (hb : Below base W w) (hB : base ≤ w.heap.size) : Below base W w1 :=
  (hb.alloc hB o).grown hg (by simp; omega) fun k hk => (h.lt k hk).1
/-- 'append(row, x)', one float, to a row that the call itself has built. -/
theorem push_law {ops : Array Oper} {rest : List Oper} {o : Oper} {a : Act} {Q : Exit → Act → World → Prop} (hgd : o.guard = none) (s x : Operand)
    (ho : o.op = .call { callee := .builtin .append, args := #[s, x], argTypes := #[34, 34] }) (w : World) (u : Nat) (base : Nat) (v : Value) (n : Nat) (xs : List Value) (hs : a.eval s = v) (hown : w.ownsRow base 24 1 v n xs) (c : Nat)
    (hx : a.eval x = .slice (some ⟨w.heap.size, 0, none⟩) 1 c) (hn : n ≤ 1000000000) (hbase : base ≤ w.heap.size)
    (h : ∀ v' w', w'.ownsRow base 24 1 v' (n + 1) (xs ++ [.float .f64 u]) → (w.alloc (.cells #[.float .f64 u] 24)).grownBy w' v.ownBlock → v' ≠ .slice none 0 0 → wpList Try.prog ops Q rest (a.put o.dst v') w') : wpList Try.prog ops Q (o :: rest) a (w.alloc (.cells #[.float .f64 u] 24)) := by
  obtain ⟨i, h1, h2, h3, h4⟩ := info_parts info24
  refine wpList_append_own _ hgd s x 34 ho base 24 i (.float .f64 0) 1 8 Try.underlying34 h1 h2 h3 h4 rfl (by decide) v n xs hs (hown.alloc _) ⟨w.heap.size, 0, none⟩ 1 c [.float .f64 u] hx rfl ?_ ?_ ?_ ?_ ?_ fun v' w' a1 a2 a3 => h v' w' a1 a2 ?_
  · intro j y hj
    match j, hj with
    | 0, hj => simp at hj; subst hj; simp [Addr.add]
  · intro y hy
    simp at hy
    subst hy
    rfl
  · unfold maxLen; omega
  · omega
  · simp; omega
  · intro e
    have := (a3.1 e).2
    omega
/-- 'append([]float64{}, list...)' of no or one float. -/
theorem app_law {ops : Array Oper} {rest : List Oper} {o : Oper} {a : Act} {Q : Exit → Act → World → Prop} (hgd : o.guard = none) (s x : Operand)
    (ho : o.op = .call { callee := .builtin .append, args := #[s, x], argTypes := #[34, 34] }) (w : World) (b off m cap : Nat) (f : Nat → Nat) (hs : a.eval s = .slice (some ⟨w.heap.size, 0, none⟩) 0 0) (hx : a.eval x = .slice (some ⟨b, off, none⟩) m cap)
    (hm : m ≤ 1000000000) (hc : ∀ i, i < m → w.cell? ⟨b, off + i, none⟩ = some (.float .f64 (f i)))
    (h : ∀ v' w', w'.ownsRow w.heap.size 24 1 v' m ((List.range m).map fun i => .float .f64 (f i)) → Below w.heap.size w w' → v' ≠ .slice none 0 0 → wpList Try.prog ops Q rest (a.put o.dst v') w') : wpList Try.prog ops Q (o :: rest) a (w.alloc (.cells #[] 24)) := by
  obtain ⟨i, h1, h2, h3, h4⟩ := info_parts info24
  refine wpList_append_own _ hgd s x 34 ho w.heap.size 24 i (.float .f64 0) 1 8 Try.underlying34 h1 h2 h3 h4 rfl (by decide) _ 0 [] hs (owns_empty w 24) ⟨b, off, none⟩ m cap ((List.range m).map fun i => .float .f64 (f i)) hx (by simp) ?_ ?_ ?_ ?_ ?_ fun v' w' a1 a2 a3 => h v' w' ?_ ?_ ?_
  · intro j y hj
    have hjm : j < m := by
      have := (List.getElem?_eq_some_iff.1 hj).1
      simpa using this
    have e : (⟨b, off, none⟩ : Addr).add j = ⟨b, off + j, none⟩ := by unfold Addr.add; split <;> simp_all
    rw [e, World.cell?_alloc_lt _ _ _ (World.block_lt_of_cell? _ _ (hc j hjm)), hc j hjm, ← hj]
    simp [hjm]
  · intro y hy
    simp at hy
    obtain ⟨j, _, rfl⟩ := hy
    rfl
  · unfold maxLen; omega
  · omega
  · simp
  · rw [Nat.zero_add, List.nil_append] at a1; exact a1
  · exact ((Below.refl _ _).alloc (Nat.le_refl _) _).grown a2 (by simp) fun k hk => by
      simp [Value.ownBlock] at hk
      omega
  · intro e
    exact absurd (a3.1 e).1 (by simp)
theorem sSort_small (b off n cap : Nat) (f : Nat → Nat) (w : World) (hn : n < 2) (hc : ∀ i, i < n → w.cell? ⟨b, off + i, none⟩ = some (.float .f64 (f i))) (hf : ∀ i, i < n → f i < 18446744073709551616) :
    Calls Try.prog 36 #[.slice (some ⟨b, off, none⟩) n cap] w fun e w' => ∃ v, e = .returned v ∧ SortedOf w w' v n f := by
  have HC : Hid (∀ i, i < n → w.cell? ⟨b, off + i, none⟩ = some (.float .f64 (f i))) := hc
  have HF : Hid (∀ i, i < n → f i < 18446744073709551616) := hf
  clear hc hf
  go_enter Try.func36, Try.ntmps36
  go_wp2_with (first | (at_builtin; refine app_law rfl (.tmp 11) (.tmp 12) rfl w b off n cap f rfl rfl (by omega) HC.out ?_; intro v1 w1 o1 b1 n1))
  have HN : Hid (SortedOf w w1 v1 n f) := by
    obtain ⟨g, cp, hv, hg, hs⟩ := owned_seg o1 n1
    exact ⟨g, cp, f, hv, hg, hs, HF.out, Pm.refl _ _ _, Srt.small f (by omega), b1⟩
  clear o1 b1 n1
  go_wp2
  go_ret
  exact ⟨_, rfl, HN.out⟩
end Go.Proofs.Ytbhpdlhmkmkbhaa
