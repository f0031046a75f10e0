/- Spots: plainly; two lists that are built side by side. -/
import Derived.Test.YtcmgafgboepllaaDo
import Derived.Maps.AppendAt
namespace Go.Proofs.Ytcmgafgboepllaa
open Go.RowKit Fl
set_option linter.unusedVariables false
set_option linter.unusedSimpArgs false
theorem push_at {ops : Array Oper} {rest : List Oper} {o : Oper} {a : Act} {Q : Exit → Act → World → Prop} (hgd : o.guard = none) (s x : Operand) (t : TypeId)
    (ho : o.op = .call { callee := .builtin .append, args := #[s, x], argTypes := #[t, t] }) (e : TypeId) (z : Value) (m bytes : Nat) (ht : Try.prog.underlying t = some (.slice e))
    (hinfo : (Try.prog.info? e).map (fun i => (i.zero, i.size, i.bytes)) = some (some z, m, bytes)) (hz1 : z.cells.size = m) (hm : 0 < m) (hby : bytes ≤ 100) (w : World) (us : List Value) (hul : us.length = m) (hu : ∀ u ∈ us, u.oneCell' = true)
    (base : Nat) (v : Value) (n : Nat) (xs : List Value) (hs : a.eval s = v) (hown : w.ownsRow base e m v n xs) (c : Nat) (hx : a.eval x = .slice (some ⟨w.heap.size, 0, none⟩) 1 c) (hn : n ≤ 1000000000) (hbase : base ≤ w.heap.size)
    (h : ∀ v' w', w'.ownsRow base e m v' (n + 1) (xs ++ us) → (w.alloc (.cells us.toArray e)).grownBy w' v.ownBlock → v' ≠ .slice none 0 0 → (v'.ownBlock = v.ownBlock ∨ v'.ownBlock = some (w.heap.size + 1)) → wpList Try.prog ops Q rest (a.put o.dst v') w') : wpList Try.prog ops Q (o :: rest) a (w.alloc (.cells us.toArray e)) := by
  obtain ⟨i, h1, h2, h3, h4⟩ := info_parts hinfo
  refine wpList_append_own_at _ hgd s x t ho base e i z m bytes ht h1 h2 h3 h4 hz1 hm v n xs hs (hown.alloc _) ⟨w.heap.size, 0, none⟩ 1 c us hx (by omega) ?_ hu ?_ ?_ ?_ fun v' w' a1 a2 a3 a4 => h v' w' a1 a2 ?_ (by simpa using a4)
  · intro j y hj
    have : (w.alloc (.cells us.toArray e)).heap[w.heap.size]? = some (.cells us.toArray e) := heap_alloc_new _ _
    have e0 : (⟨w.heap.size, 0, none⟩ : Addr).add j = ⟨w.heap.size, j, none⟩ := by
      unfold Addr.add
      split
      · rename_i h; subst h; rfl
      · simp
    rw [e0]
    unfold World.cell?
    rw [this]
    simpa using hj
  · unfold maxLen; omega
  · have : (n + 1) * bytes ≤ (n + 1) * 100 := Nat.mul_le_mul_left _ hby
    omega
  · simp; omega
  · intro e
    have := (a3.1 e).2
    omega

theorem owns_grown {W W' : World} {base n m : Nat} {t : TypeId} {v : Value} {xs : List Value} {ob : Option Nat} (h : W.ownsRow base t m v n xs) (hg : W.grownBy W' ob) (hne : ∀ q, v.ownBlock = some q → ob ≠ some q) : W'.ownsRow base t m v n xs := by
  obtain ⟨h0, h | ⟨g, cap, cur, hv, hg', hh, r⟩⟩ := h
  · exact ⟨h0, Or.inl h⟩
  · refine ⟨h0, Or.inr ⟨g, cap, cur, hv, hg', (hg.block g (Array.getElem?_eq_some_iff.1 hh).1 fun e => hne g (by rw [hv]; simp [Value.ownBlock]) e.symm).trans hh, r⟩⟩
abbrev fl (f : Nat → Nat) (k : Nat) : List Value := (List.range k).map fun i => Value.float .f64 (f i)
theorem fl_push (f : Nat → Nat) (k : Nat) : fl f k ++ [Value.float .f64 (f k)] = fl f (k + 1) := by unfold fl; rw [List.range_succ]; simp
abbrev Sz : Array Value := #[.int .i64 0, .float .f64 0, .float .f64 0, .float .f64 0]
structure X2 (w wr : World) (vx vy : Value) (f g : Nat → Nat) (k l : Nat) : Prop where
  ox : wr.ownsRow (w.heap.size + 1) 24 1 vx k (fl f k)
  oy : wr.ownsRow (w.heap.size + 1) 24 1 vy l (fl g l)
  ne : ∀ q, vx.ownBlock = some q → vy.ownBlock ≠ some q
  res : Blk wr w.heap.size #[.int .i64 0, .float .f64 0, .float .f64 0, .float .f64 0] 26
  be : Below w.heap.size w wr
theorem X2.swap {w wr : World} {vx vy : Value} {f g : Nat → Nat} {k l : Nat} (h : X2 w wr vx vy f g k l) : X2 w wr vy vx g f l k := ⟨h.oy, h.ox, fun q h1 h2 => h.ne q h2 h1, h.res, h.be⟩
theorem X2.step {w wr w1 : World} {vx vy vn : Value} {f g : Nat → Nat} {k l : Nat} {o : Obj} (h : X2 w wr vx vy f g k l) (h1 : w1.ownsRow (w.heap.size + 1) 24 1 vn (k + 1) (fl f k ++ [Value.float .f64 (f k)])) (h2 : (wr.alloc o).grownBy w1 vx.ownBlock) (h3 : vn.ownBlock = vx.ownBlock ∨ vn.ownBlock = some (wr.heap.size + 1)) : X2 w w1 vn vy f g (k + 1) l := by
  have hz := h.res.lt
  have low : ∀ q, vx.ownBlock = some q → w.heap.size + 1 ≤ q := fun q hq => (h.ox.lt q hq).1
  refine ⟨by rw [← fl_push]; exact h1, owns_grown (h.oy.alloc o) h2 (fun q hq e => h.ne q e hq), fun q hq hy => ?_, ?_, ?_⟩
  · rcases h3 with e | e
    · exact h.ne q (by rw [← e]; exact hq) hy
    · rw [e] at hq
      have := (h.oy.lt q hy).2
      have := Option.some.inj hq
      omega
  · exact (h2.block w.heap.size (by simp; omega) fun e => by have := low _ e.symm; omega).trans (h.res.alloc o)
  · exact (h.be.alloc h.be.size o).grown h2 (by simp; omega) fun q hq => by have := low q hq; omega
/-! ### plainly -/
abbrev Sp (c : Int) (a : Nat → Nat) : Value := .agg #[.int .i64 c, .float .f64 (a 0), .float .f64 (a 1), .float .f64 (a 2)]
def r3 {α : Type} (x y z : α) : Nat → α := fun j => match j with | 0 => x | 1 => y | _ => z
def mnC (f : Nat → Nat) (n : Nat) : Option Nat := opC .quo (fsumC f n) (cl (mk (n : Int)))
def dvC (G : Nat → Nat → Nat) (X Y : Option Nat) (i : Nat) : Option Nat := opC .add (opC .mul (opC .sub (cl (G i 0)) X) (opC .sub (cl (G i 0)) X)) (opC .mul (opC .sub (cl (G i 1)) Y) (opC .sub (cl (G i 1)) Y))
def dsC (G : Nat → Nat → Nat) (X Y : Option Nat) : Nat → Option Nat
  | 0 => zO
  | k + 1 => opC .add (dsC G X Y k) (dvC G X Y k)
def rmC (G : Nat → Nat → Nat) (X Y : Option Nat) (n : Nat) : Option Nat := sqO (opC .quo (dsC G X Y n) (cl (mk (n : Int))))
def spC (G : Nat → Nat → Nat) (n : Nat) : Nat → Option Nat := r3 (mnC (fun i => G i 0) n) (mnC (fun i => G i 1) n) (rmC G (mnC (fun i => G i 0) n) (mnC (fun i => G i 1) n) n)
/-- What is answered: a code and three floats of these classes. -/
def SV (fn : FuncId) (args : Array Value) (w : World) (c : Int) (O : Nat → Option Nat) : Prop :=
  Calls Try.prog fn args w fun e w' => ∃ a, e = .returned (Sp c a) ∧ (∀ j, j < 3 → Fc (a j) (O j)) ∧ Below w.heap.size w w'
theorem conv3 : ∀ (z : Int) (w : World), (convert 3 24 (.int .i64 z)).run Try.prog w = .ok (.float .f64 (mk z)) w := fun z w => run_convert_int_float w 3 24 .i64 .f64 z (by rw [Try.underlying3]; rfl) Try.underlying24
end Go.Proofs.Ytcmgafgboepllaa
