/- Lists built by append in a step of a region that draws its order; lists of numbers. -/
import Derived.Test.YtgidoceflkdklaaIn
import Derived.Deep.AppendLies
namespace Go.Proofs.Ytgidoceflkdklaa
open Go.RowKit Fl
set_option linter.unusedVariables false
theorem step_push {ops : Array Oper} {o : Oper} {a : Act} {K : Act → World → Prop} {Q : Exit → Act → World → Prop} {E : Prop} (hgd : o.guard = none) (s x : Operand) (t : TypeId)
    (ho : o.op = .call { callee := .builtin .append, args := #[s, x], argTypes := #[t, t] }) (e : TypeId) (z : Value) (m bytes : Nat) (ht : Try.prog.underlying t = some (.slice e))
    (hinfo : (Try.prog.info? e).map (fun i => (i.zero, i.size, i.bytes)) = some (some z, m, bytes)) (hz1 : z.cells.size = m) (hm : 0 < m) (hby : bytes ≤ 100) (w : World) (us : List Value) (hul : us.length = m) (hu : ∀ u ∈ us, u.oneCell' = true)
    (base : Nat) (v : Value) (n : Nat) (xs : List Value) (hs : a.eval s = v) (hown : w.ownsRow base e m v n xs) (c : Nat) (hx : a.eval x = .slice (some ⟨w.heap.size, 0, none⟩) 1 c) (hn : n ≤ 1000000000) (hbase : base ≤ w.heap.size)
    (h : ∀ v' w', w'.ownsRow base e m v' (n + 1) (xs ++ us) → (w.alloc (.cells us.toArray e)).grownBy w' v.ownBlock → (∃ g cap, v' = .slice (some ⟨g, 0, none⟩) (n + 1) cap) → K (a.put o.dst v') w') :
    if Region.wanted o (yielded ops a.tmps) = true then Oper.wp Try.prog o a (w.alloc (.cells us.toArray e)) K Q else E := by
  obtain ⟨i, h1, h2, h3, h4⟩ := info_parts hinfo
  refine step_append_lies _ hgd s x t ho base e i z m bytes ht h1 h2 h3 h4 hz1 hm v n xs hs (hown.alloc _) ⟨w.heap.size, 0, none⟩ 1 c us hx (by omega) ?_ hu (by decide) ?_ ?_ ?_ _ rfl fun g cap w' a1 a2 _ _ => h _ w' a1 a2 ⟨g, cap, rfl⟩
  · intro j y hj
    have : (w.alloc (.cells us.toArray e)).heap[w.heap.size]? = some (.cells us.toArray e) := heap_alloc_new _ _
    have e0 : (⟨w.heap.size, 0, none⟩ : Addr).add j = ⟨w.heap.size, j, none⟩ := by
      unfold Addr.add
      split
      · rename_i h; subst h; rfl
      · simp
    rw [e0]
    unfold World.cell?
    rw [this]
    simpa using hj
  · unfold maxLen; omega
  · have : (n + 1) * bytes ≤ (n + 1) * 100 := Nat.mul_le_mul_left _ hby
    omega
  · simp; omega
/-- The numbers f, as values. -/
def il (f : Nat → Int) (n : Nat) : List Value := (List.range n).map (fun i => .int .i64 (f i))
theorem il_push (f : Nat → Int) (k : Nat) : il f k ++ [.int .i64 (f k)] = il f (k + 1) := by unfold il; rw [List.range_succ]; simp
theorem il_at (f : Nat → Int) {n i : Nat} (h : i < n) : (il f n)[i]? = some (.int .i64 (f i)) := by simp [il, h]
theorem owned_il {w : World} {base n : Nat} {v : Value} {f : Nat → Int} (h : w.ownsRow base 2 1 v n (il f n)) : OwS 2 base w.heap.size w v n (fun i => .int .i64 (f i)) := owned_seg h fun i hi => il_at f hi
end Go.Proofs.Ytgidoceflkdklaa
