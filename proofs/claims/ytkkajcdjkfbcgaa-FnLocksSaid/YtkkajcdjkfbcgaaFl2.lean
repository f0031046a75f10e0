/- Two lists of numbers that grow side by side; regions that only read. -/
import Derived.Test.YtkkajcdjkfbcgaaDl
import Derived.Test.YtkkajcdjkfbcgaaFk
import Derived.Test.YtkkajcdjkfbcgaaLo
import Derived.Deep.Quiet
import Derived.BigQuiet
import Derived.Laws.AppendOwnNone
namespace Go.Proofs.Ytkkajcdjkfbcgaa
open Go.RowKit
set_option linter.unusedVariables false
set_option linter.unusedSimpArgs false
/-- A world in which all that lay below B in W is as it was. -/
structure Kept (B : Nat) (W : World) where
  w : World
  h : Below B W w
theorem kept_some (B : Nat) (W : World) : Nonempty (Kept B W) := ⟨⟨W, Below.refl B W⟩⟩
theorem Kept.cell {B : Nat} {W : World} (x : Kept B W) {p : Addr} {v : Value} (hp : p.block < B) (h : W.cell? p = some v) : x.w.cell? p = some v := by rw [x.h.cell hp]; exact h
theorem wp_region_kept {P : Program} {id : Nat} {Q : Exit → Act → World → Prop} {a : Act} {w : World} {l : List Oper} (B : Nat) (hm : P.follows .mixedOrders = true) (hB : Region.lexB .any l.toArray = true)
    (h : Nonempty (Kept B w) → wpQuiet P l.toArray (fun w' => ∃ x : Kept B w, w' = x.w) (fun a' => ∀ w', (∃ x : Kept B w, w' = x.w) → Q .normal a' w') l a) : (Code.region id l.toArray true).wp P Q a w :=
  wp_region_quiet (C := fun w' => ∃ x : Kept B w, w' = x.w) hm hB ⟨⟨w.drew, (Below.refl B w).drew⟩, rfl⟩ (by simpa using h (kept_some B w))
theorem Calls.kept_of {P : Program} {f : FuncId} {args : Array Value} {B : Nat} {W : World} {x : Kept B W} {v : Value} (hB : B ≤ W.heap.size)
    (h : Calls P f args x.w fun e w' => e = .returned v ∧ Below x.w.heap.size x.w w') : Calls P f args x.w fun e w'' => e = .returned v ∧ ∃ y : Kept B W, w'' = y.w :=
  h.mono fun _ w' ⟨he, hb⟩ => ⟨he, ⟨w', x.h.trans (hb.mono (Nat.le_trans hB x.h.size))⟩, rfl⟩
theorem push_at {ops : Array Oper} {rest : List Oper} {o : Oper} {a : Act} {Q : Exit → Act → World → Prop} (hgd : o.guard = none) (s x : Operand) (t : TypeId)
    (ho : o.op = .call { callee := .builtin .append, args := #[s, x], argTypes := #[t, t] }) (e : TypeId) (z : Value) (m bytes : Nat) (ht : Try.prog.underlying t = some (.slice e))
    (hinfo : (Try.prog.info? e).map (fun i => (i.zero, i.size, i.bytes)) = some (some z, m, bytes)) (hz1 : z.cells.size = m) (hm : 0 < m) (hby : bytes ≤ 100) (w : World) (us : List Value) (hul : us.length = m) (hu : ∀ u ∈ us, u.oneCell' = true)
    (base : Nat) (v : Value) (n : Nat) (xs : List Value) (hs : a.eval s = v) (hown : w.ownsRow base e m v n xs) (c : Nat) (hx : a.eval x = .slice (some ⟨w.heap.size, 0, none⟩) 1 c) (hn : n ≤ 1000000000) (hbase : base ≤ w.heap.size)
    (h : ∀ v' w', w'.ownsRow base e m v' (n + 1) (xs ++ us) → (w.alloc (.cells us.toArray e)).grownBy w' v.ownBlock → v' ≠ .slice none 0 0 → (v'.ownBlock = v.ownBlock ∨ v'.ownBlock = some (w.heap.size + 1)) → wpList Try.prog ops Q rest (a.put o.dst v') w') : wpList Try.prog ops Q (o :: rest) a (w.alloc (.cells us.toArray e)) := by
  obtain ⟨i, h1, h2, h3, h4⟩ := info_parts hinfo
  refine wpList_append_own_at _ hgd s x t ho base e i z m bytes ht h1 h2 h3 h4 hz1 hm v n xs hs (hown.alloc _) ⟨w.heap.size, 0, none⟩ 1 c us hx (by omega) ?_ hu ?_ ?_ ?_ fun v' w' a1 a2 a3 a4 => h v' w' a1 a2 ?_ (by simpa using a4)
  · intro j y hj
    have : (w.alloc (.cells us.toArray e)).heap[w.heap.size]? = some (.cells us.toArray e) := heap_alloc_new _ _
    have e0 : (⟨w.heap.size, 0, none⟩ : Addr).add j = ⟨w.heap.size, j, none⟩ := by
      unfold Addr.add
      split
      · rename_i h; subst h; rfl
      · simp
    rw [e0]
    unfold World.cell?
    rw [this]
    simpa using hj
  · unfold maxLen; omega
  · have : (n + 1) * bytes ≤ (n + 1) * 100 := Nat.mul_le_mul_left _ hby
    omega
  · simp; omega
  · intro e
    have := (a3.1 e).2
    omega

theorem owns_grown {W W' : World} {base n m : Nat} {t : TypeId} {v : Value} {xs : List Value} {ob : Option Nat} (h : W.ownsRow base t m v n xs) (hg : W.grownBy W' ob) (hne : ∀ q, v.ownBlock = some q → ob ≠ some q) : W'.ownsRow base t m v n xs := by
  obtain ⟨h0, h | ⟨g, cap, cur, hv, hg', hh, r⟩⟩ := h
  · exact ⟨h0, Or.inl h⟩
  · refine ⟨h0, Or.inr ⟨g, cap, cur, hv, hg', (hg.block g (Array.getElem?_eq_some_iff.1 hh).1 fun e => hne g (by rw [hv]; simp [Value.ownBlock]) e.symm).trans hh, r⟩⟩
abbrev fl (f : Nat → Nat) (k : Nat) : List Value := (List.range k).map fun i => Value.float .f64 (f i)
theorem fl_push (f : Nat → Nat) (k : Nat) : fl f k ++ [Value.float .f64 (f k)] = fl f (k + 1) := by unfold fl; rw [List.range_succ]; simp
abbrev Sz : Array Value := #[.int .i64 0, .float .f64 0, .float .f64 0, .float .f64 0]
structure X2 (B : Nat) (w wr : World) (vx vy : Value) (f g : Nat → Int) (k l : Nat) : Prop where
  ox : wr.ownsRow B 2 1 vx k (il f k)
  oy : wr.ownsRow B 2 1 vy l (il g l)
  ne : ∀ q, vx.ownBlock = some q → vy.ownBlock ≠ some q
  be : Below B w wr
  lt : B ≤ w.heap.size
theorem X2.swap {B : Nat} {w wr : World} {vx vy : Value} {f g : Nat → Int} {k l : Nat} (h : X2 B w wr vx vy f g k l) : X2 B w wr vy vx g f l k := ⟨h.oy, h.ox, fun q h1 h2 => h.ne q h2 h1, h.be, h.lt⟩
theorem X2.step {B : Nat} {w wr w1 : World} {vx vy vn : Value} {f g : Nat → Int} {k l : Nat} {o : Obj} (h : X2 B w wr vx vy f g k l) (h1 : w1.ownsRow B 2 1 vn (k + 1) (il f k ++ [Value.int .i64 (f k)])) (h2 : (wr.alloc o).grownBy w1 vx.ownBlock) (h3 : vn.ownBlock = vx.ownBlock ∨ vn.ownBlock = some (wr.heap.size + 1)) : X2 B w w1 vn vy f g (k + 1) l := by
  have hs := h.be.size
  have hlt := h.lt
  have low : ∀ q, vx.ownBlock = some q → B ≤ q := fun q hq => (h.ox.lt q hq).1
  refine ⟨by rw [← il_push]; exact h1, owns_grown (h.oy.alloc o) h2 (fun q hq e => h.ne q e hq), fun q hq hy => ?_, ?_, h.lt⟩
  · rcases h3 with e | e
    · exact h.ne q (by rw [← e]; exact hq) hy
    · rw [e] at hq
      have := (h.oy.lt q hy).2
      have := Option.some.inj hq
      omega
  · exact (h.be.alloc (by omega) o).grown h2 (by simp; omega) low
theorem st28 : Try.prog.stoodInHeld 28 = false := by kernel_rfl
theorem field28_0 (c x y : Int) (w : World) : (Instr.field 28 (.agg #[.int .i64 c, .int .i64 x, .int .i64 y]) 0).run Try.prog w = .ok (.int .i64 c) w := by
  have hu : Try.prog.underlying 28 = some (.struct (Try.prog.fieldsOf 28)) := by kernel_rfl
  have h : ((Try.prog.fieldsOf 28)[0]?).map (fun f => (f.type, f.offset)) = some (2, 0) := by kernel_rfl
  obtain ⟨f, hf, e⟩ := Option.map_eq_some_iff.1 h
  simp only [Prod.mk.injEq] at e
  obtain ⟨h1, h2⟩ := e
  have hh : (Try.prog.fieldsOf 28)[0]? = some f := hf
  simp [Instr.field, run_underlying hu, hh, h1, h2, asAgg, part, isAgg, run_underlying Try.underlying25, go_sem]
end Go.Proofs.Ytkkajcdjkfbcgaa
