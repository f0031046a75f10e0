/- A cell appended to a list at a step of a region that draws its order. -/
import Derived.Test.YtboppklcmdfphaaPa
import Derived.Deep.RegionLaw
namespace Go.Proofs.Ytboppklcmdfphaa
open Go.RowKit
set_option linter.unusedVariables false
set_option linter.unusedSimpArgs false
theorem step_pushV {ops : Array Oper} {o : Oper} {a : Act} {K : Act → World → Prop} {Q : Exit → Act → World → Prop} {E : Prop} (hgd : o.guard = none) (s x : Operand) (t : TypeId)
    (ho : o.op = .call { callee := .builtin .append, args := #[s, x], argTypes := #[t, t] }) (e : TypeId) (z : Value) (m bytes : Nat) (ht : Try.prog.underlying t = some (.slice e))
    (hinfo : (Try.prog.info? e).map (fun i => (i.zero, i.size, i.bytes)) = some (some z, m, bytes)) (hz1 : z.cells.size = m) (hm : 0 < m) (hby : bytes ≤ 100) (w : World) (us : List Value) (hul : us.length = m) (hu : ∀ u ∈ us, u.oneCell' = true)
    (base : Nat) (v : Value) (n : Nat) (xs : List Value) (hs : a.eval s = v) (hown : w.ownsRow base e m v n xs) (c : Nat) (hx : a.eval x = .slice (some ⟨w.heap.size, 0, none⟩) 1 c) (hn : n ≤ 1000000000) (hbase : base ≤ w.heap.size)
    (h : ∀ v' w', w'.ownsRow base e m v' (n + 1) (xs ++ us) → (w.alloc (.cells us.toArray e)).grownBy w' v.ownBlock → K (a.put o.dst v') w') :
    if Region.wanted o (yielded ops a.tmps) = true then Oper.wp Try.prog o a (w.alloc (.cells us.toArray e)) K Q else E := by
  obtain ⟨i, h1, h2, h3, h4⟩ := infoV_parts hinfo
  refine step_append_lies _ hgd s x t ho base e i z m bytes ht h1 h2 h3 h4 hz1 hm v n xs hs (hown.alloc _) ⟨w.heap.size, 0, none⟩ 1 c us hx (by omega) ?_ hu (by decide) ?_ ?_ ?_ _ rfl fun g cap w' a1 a2 _ _ => h _ w' a1 a2
  · intro j y hj
    have : (w.alloc (.cells us.toArray e)).heap[w.heap.size]? = some (.cells us.toArray e) := heap_alloc_new _ _
    have e0 : (⟨w.heap.size, 0, none⟩ : Addr).add j = ⟨w.heap.size, j, none⟩ := by
      unfold Addr.add
      split
      · rename_i h; subst h; rfl
      · simp
    rw [e0]
    unfold World.cell?
    rw [this]
    simpa using hj
  · unfold maxLen; omega
  · have : (n + 1) * bytes ≤ (n + 1) * 100 := Nat.mul_le_mul_left _ hby
    omega
  · simp; omega
theorem step_pushC {ops : Array Oper} {o : Oper} {a : Act} {K : Act → World → Prop} {Q : Exit → Act → World → Prop} {E : Prop} (hgd : o.guard = none) (s x : Operand)
    (ho : o.op = .call { callee := .builtin .append, args := #[s, x], argTypes := #[47, 47] }) (w : World) (g : Ce) (base : Nat) (v : Value) (N : List Ce) (hs : a.eval s = v) (hown : OwL base w v N) (hx : a.eval x = .slice (some ⟨w.heap.size, 0, none⟩) 1 1) (hn : N.length ≤ 1000000) (hbase : base ≤ w.heap.size)
    (h : ∀ v' w', OwL base w' v' (N ++ [g]) → (w.alloc (.cells #[Value.int .i64 g.i, Value.int .i64 g.j, Value.int .i64 g.a, Value.int .i64 g.b, Value.int .i64 g.c, Value.int .i64 g.d] 77)).grownBy w' v.ownBlock → K (a.put o.dst v') w') :
    if Region.wanted o (yielded ops a.tmps) = true then Oper.wp Try.prog o a (w.alloc (.cells #[Value.int .i64 g.i, Value.int .i64 g.j, Value.int .i64 g.a, Value.int .i64 g.b, Value.int .i64 g.c, Value.int .i64 g.d] 77)) K Q else E :=
  step_pushV hgd s x 47 ho 77 _ 6 48 Try.underlying47 infoCell rfl (by decide) (by decide) w [Value.int .i64 g.i, Value.int .i64 g.j, Value.int .i64 g.a, Value.int .i64 g.b, Value.int .i64 g.c, Value.int .i64 g.d] rfl (fun u hu => cellsL_cell [g] u (by rw [cellsL_one]; exact hu)) base v N.length (cellsL N) hs hown 1 hx (by omega) hbase fun v' w' h1 h2 => h v' w' (by
    unfold OwL
    rw [List.length_append, cellsL_app, cellsL_one]
    exact h1) h2
theorem OwL.rdC {base : Nat} {W : World} {v : Value} {N : List Ce} (h : OwL base W v N) : RdC W v N.length (fun i => N.getD i Rm.nilC) := by
  rcases h.seg with ⟨rfl, rfl⟩ | ⟨g, cap, rfl, _, hs⟩
  · exact Or.inl ⟨_, _, rfl, rfl⟩
  · exact Or.inr ⟨g, cap, rfl, hs⟩
theorem rev_take {N : List Ce} {j m : Nat} (hj : j < N.length) (hm : m = N.length - 1 - j) : N.reverse.take j ++ [N.getD m Rm.nilC] = N.reverse.take (j + 1) := by
  subst hm
  rw [rev_get N hj, List.take_add_one, List.getD_eq_getElem?_getD]
  have : j < N.reverse.length := by simpa using hj
  rw [List.getElem?_eq_getElem this]
  simp
theorem OwL.ownC {base : Nat} {W : World} {v : Value} {N : List Ce} (h : OwL base W v N) : OwC base W.heap.size W v N.length (fun i => N.getD i Rm.nilC) := by
  rcases h.seg with ⟨rfl, rfl⟩ | ⟨g, cap, rfl, hg, hs⟩
  · exact Or.inl ⟨_, _, rfl, rfl⟩
  · exact Or.inr ⟨g, cap, rfl, hg, hs.lt, hs⟩
theorem RdC.later' {w w' : World} {v : Value} {n : Nat} {C : Nat → Ce} (h : RdC w v n C) (hb : Below w.heap.size w w') : RdC w' v n C := by
  rcases h with h | ⟨g, cap, rfl, hs⟩
  · exact Or.inl h
  · exact Or.inr ⟨g, cap, rfl, hs.of_block (hb.block g hs.lt)⟩
end Go.Proofs.Ytboppklcmdfphaa
