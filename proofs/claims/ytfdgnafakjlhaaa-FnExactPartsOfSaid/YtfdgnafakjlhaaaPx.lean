/- Parts of a list of plain surfaces: plainly; what a loop of PartsOf has built. -/
import Derived.Test.YtfdgnafakjlhaaaPb
import Derived.Test.YtfdgnafakjlhaaaPu
namespace Go.Proofs.Ytfdgnafakjlhaaa
open Go.RowKit
set_option linter.unusedVariables false
set_option linter.unusedSimpArgs false
/-- The index ahead of surface i. -/
def pb (G : Nat → Ps) : Nat → Q
  | 0 => one
  | i + 1 => (G i).x
def fine (g : Ps) : Bool := g.c.ok && (g.g.ok && (g.x.ok && decide (1 ≤ g.x.n)))
def pwK (p : Q) (g : Ps) : Bool := subK g.x p && mulK (subQ g.x p) g.c
def pwQ (p : Q) (g : Ps) : Q := mulQ (subQ g.x p) g.c
def gpK (g : Ps) : Bool := divK g.g g.x
def gpQ (g : Ps) : Q := divQ g.g g.x
def goodAt (G : Nat → Ps) (i : Nat) : Bool := pwK (pb G i) (G i) && gpK (G i)
def pcF (G : Nat → Ps) : Nat → Nat → Int
  | 0, _ => 0
  | f + 1, i => if fine (G i) = true then (if goodAt G i = true then pcF G f (i + 1) else 3) else 1
def pcode (G : Nat → Ps) (n : Nat) : Int := if 40 < n then 2 else pcF G n 0
/-- The two parts of surface i, as cells. -/
def pp (G : Nat → Ps) (i : Nat) : List Value := [.int .i64 2, .int .i64 (pwQ (pb G i) (G i)).n, .int .i64 (pwQ (pb G i) (G i)).d, .int .i64 1, .int .i64 (gpQ (G i)).n, .int .i64 (gpQ (G i)).d]
theorem pp_len (G : Nat → Ps) (i : Nat) : (pp G i).length = 6 := rfl
theorem pb_ok {G : Nat → Ps} : ∀ {k : Nat}, (∀ j, j < k → fine (G j) = true) → (pb G k).ok = true
  | 0, _ => one_ok
  | k + 1, h => by
    have := h k (by omega)
    unfold fine at this
    simp only [Bool.and_eq_true] at this
    exact this.2.2.1
/-- append of c values of m cells each. -/
theorem push_many {ops : Array Oper} {rest : List Oper} {o : Oper} {a : Act} {Q : Exit → Act → World → Prop} (hgd : o.guard = none) (s x : Operand) (t : TypeId)
    (ho : o.op = .call { callee := .builtin .append, args := #[s, x], argTypes := #[t, t] }) (e : TypeId) (z : Value) (m bytes : Nat) (ht : Try.prog.underlying t = some (.slice e))
    (hinfo : (Try.prog.info? e).map (fun i => (i.zero, i.size, i.bytes)) = some (some z, m, bytes)) (hz1 : z.cells.size = m) (hm : 0 < m) (hby : bytes ≤ 100) (w : World) (us : List Value) (hul : us.length = 2 * m) (hu : ∀ u ∈ us, u.oneCell' = true)
    (base : Nat) (v : Value) (n : Nat) (xs : List Value) (hs : a.eval s = v) (hown : w.ownsRow base e m v n xs) (c : Nat) (hx : a.eval x = .slice (some ⟨w.heap.size, 0, none⟩) 2 c) (hn : n ≤ 1000000000) (hbase : base ≤ w.heap.size)
    (h : ∀ v' w', w'.ownsRow base e m v' (n + 2) (xs ++ us) → (w.alloc (.cells us.toArray e)).grownBy w' v.ownBlock → v' ≠ .slice none 0 0 → wpList Try.prog ops Q rest (a.put o.dst v') w') : wpList Try.prog ops Q (o :: rest) a (w.alloc (.cells us.toArray e)) := by
  obtain ⟨i, h1, h2, h3, h4⟩ := info_parts hinfo
  refine wpList_append_own _ hgd s x t ho base e i z m bytes ht h1 h2 h3 h4 hz1 hm v n xs hs (hown.alloc _) ⟨w.heap.size, 0, none⟩ 2 c us hx (by omega) ?_ hu ?_ ?_ ?_ fun v' w' a1 a2 a3 => h v' w' a1 a2 ?_
  · intro j y hj
    have : (w.alloc (.cells us.toArray e)).heap[w.heap.size]? = some (.cells us.toArray e) := heap_alloc_new _ _
    have e0 : (⟨w.heap.size, 0, none⟩ : Addr).add j = ⟨w.heap.size, j, none⟩ := by
      unfold Addr.add
      split
      · rename_i h; subst h; rfl
      · simp
    rw [e0]
    unfold World.cell?
    rw [this]
    simpa using hj
  · unfold maxLen; omega
  · have : (n + 2) * bytes ≤ (n + 2) * 100 := Nat.mul_le_mul_left _ hby
    omega
  · simp; omega
  · intro e
    have := (a3.1 e).2
    omega
/-- A block of another type stays, where a row has grown. -/
theorem block_other {w w' : World} {base' n' m' : Nat} {t t' : TypeId} {r : Value} {xs' : List Value} {q : Nat} {cur : Array Value} (h : w.heap[q]? = some (.cells cur t (0, 0))) (hg : w.grownBy w' r.ownBlock) (hr : w.ownsRow base' t' m' r n' xs') (ht : t ≠ t') : w'.heap[q]? = some (.cells cur t (0, 0)) := by
  refine (hg.block q (Array.getElem?_eq_some_iff.1 h).1 ?_).trans h
  intro e
  obtain ⟨_, h' | ⟨g', cap', cur', hv', _, hh', _⟩⟩ := hr
  · rw [h'.1] at e; cases e
  · rw [hv'] at e
    simp only [Value.ownBlock, Option.some.injEq] at e
    rw [e, hh'] at h
    simp only [Option.some.injEq, Obj.cells.injEq] at h
    exact ht h.2.1.symm
theorem owns_set {w : World} {base n m q j : Nat} {t t' : TypeId} {v u : Value} {xs : List Value} {cur : Array Value} (h : w.ownsRow base t m v n xs) (hq : w.heap[q]? = some (.cells cur t' (0, 0))) (ht : t' ≠ t) : (w.setCell ⟨q, j, none⟩ u).ownsRow base t m v n xs := by
  obtain ⟨h0, h | ⟨g, cap, c2, hv, hgb, hh, rest⟩⟩ := h
  · exact ⟨h0, Or.inl h⟩
  · refine ⟨h0, Or.inr ⟨g, cap, c2, hv, hgb, (Below.heap_setCell _ _ _ _ ?_).trans hh, rest⟩⟩
    intro e
    simp only at e
    rw [e, hq] at hh
    simp only [Option.some.injEq, Obj.cells.injEq] at hh
    exact ht hh.2.1
theorem Blk.set {W : World} {b j : Nat} {cs cs' : Array Value} {t : TypeId} (h : Blk W b cs t) (v : Value) (e : cs.setIfInBounds j v = cs') : Blk (W.setCell ⟨b, j, none⟩ v) b cs' t := by
  subst e
  have h' : W.heap[b]? = _ := h
  show (W.setCell ⟨b, j, none⟩ v).heap[b]? = _
  simp [World.setCell, Array.getElem?_modify, h']
/-- What a loop of PartsOf has built: the parts of k surfaces of n; R: the answer's block, q: that of the index ahead. -/
structure PSt (w : World) (G : Nat → Ps) (n R q : Nat) (wr : World) (v : Value) (k : Nat) : Prop where
  own : wr.ownsRow w.heap.size 99 3 v (2 * k) (flat (pp G) k)
  nn : v ≠ .slice none 0 0
  res : Blk wr R #[.int .i64 0, .slice none 0 0] 48
  bef : Blk wr q #[.int .i64 (pb G k).n, .int .i64 (pb G k).d] 36
  below : Below w.heap.size w wr
  lowR : w.heap.size ≤ R
  lowq : w.heap.size ≤ q
  fn : ∀ j, j < k → fine (G j) = true
  cd : pcF G (n - k) k = pcode G n
theorem PSt.ne {w : World} {G : Nat → Ps} {n R q : Nat} {wr : World} {v : Value} {k : Nat} (h : PSt w G n R q wr v k) : R ≠ q := by
  intro e
  have h1 := h.res
  have h2 := h.bef
  rw [e] at h1
  have := h1.symm.trans h2
  simp at this
theorem PSt.push {w wr W w3 : World} {G : Nat → Ps} {n R q k : Nat} {v v1 : Value} (h : PSt w G n R q wr v k) (hb : Below wr.heap.size wr W) (hk : k < n) (hf : fine (G k) = true) (hg : goodAt G k = true) {us : List Value} (hu : us = pp G k) (own3 : w3.ownsRow w.heap.size 99 3 v1 (2 * k + 2) (flat (pp G) k ++ us)) (grow3 : (W.alloc (.cells us.toArray 99)).grownBy w3 v.ownBlock) (nn3 : v1 ≠ .slice none 0 0) :
    PSt w G n R q ((w3.setCell ⟨q, 0, none⟩ (.int .i64 (G k).x.n)).setCell ⟨q, 1, none⟩ (.int .i64 (G k).x.d)) v1 (k + 1) := by
  have hr : (W.alloc (.cells us.toArray 99)).ownsRow w.heap.size 99 3 v (2 * k) (flat (pp G) k) := (owns_later h.own hb).alloc _
  have b1 : Blk w3 R #[.int .i64 0, .slice none 0 0] 48 := block_other ((h.res.old hb).alloc _) grow3 hr (by decide)
  have b2 : Blk w3 q #[.int .i64 (pb G k).n, .int .i64 (pb G k).d] 36 := block_other ((h.bef.old hb).alloc _) grow3 hr (by decide)
  have b3 : Blk (w3.setCell ⟨q, 0, none⟩ (.int .i64 (G k).x.n)) q #[.int .i64 (G k).x.n, .int .i64 (pb G k).d] 36 := b2.set _ rfl
  have o3 : w3.ownsRow w.heap.size 99 3 v1 (2 * (k + 1)) (flat (pp G) (k + 1)) := by rw [flat_succ, ← hu]; exact own3
  refine ⟨owns_set (owns_set o3 b2 (by decide)) b3 (by decide), nn3, (b1.setOther h.ne _).setOther h.ne _, b3.set _ rfl, ((push_below (owns_later h.own hb) grow3 (h.below.trans (hb.mono h.below.size)) (Nat.le_trans h.below.size hb.size)).setCell h.lowq _).setCell h.lowq _, h.lowR, h.lowq, fun j hj => ?_, ?_⟩
  · by_cases e : j = k
    · rw [e]; exact hf
    · exact h.fn j (by omega)
  · have := h.cd
    rw [show n - k = (n - (k + 1)) + 1 by omega] at this
    unfold pcF at this
    rw [if_pos hf, if_pos hg] at this
    exact this
/-- What is answered. -/
def PAns (G : Nat → Ps) (n : Nat) (w : World) (v : Value) (w' : World) : Prop :=
  (pcode G n ≠ 0 ∧ v = .slice none 0 0) ∨ (pcode G n = 0 ∧ n ≤ 40 ∧ ∃ g cp, v = .slice (some ⟨g, 0, none⟩) (2 * n) cp ∧ w.heap.size ≤ g ∧ ∃ c : Array Value, w'.heap[g]? = some (.cells c 99 (0, 0)) ∧ ∀ i, i < n → ∀ j, j < 6 → c[i * 6 + j]? = (pp G i)[j]?)
theorem PSt.no {w : World} {G : Nat → Ps} {n R q : Nat} {wr : World} {v : Value} {k : Nat} (h : PSt w G n R q wr v k) (hk : k < n) (hf : fine (G k) = false) : pcode G n = 1 := by
  rw [← h.cd, show n - k = (n - (k + 1)) + 1 by omega]
  unfold pcF
  rw [hf]; rfl
theorem PSt.bad {w : World} {G : Nat → Ps} {n R q : Nat} {wr : World} {v : Value} {k : Nat} (h : PSt w G n R q wr v k) (hk : k < n) (hf : fine (G k) = true) (hg : goodAt G k = false) : pcode G n = 3 := by
  rw [← h.cd, show n - k = (n - (k + 1)) + 1 by omega]
  unfold pcF
  rw [hf, hg]; rfl
end Go.Proofs.Ytfdgnafakjlhaaa
