/- What GuardDown answers, plainly and in memory. -/
import Derived.Test.YtinfbbbgfkaioaaGs
import Derived.Test.YtinfbbbgfkaioaaOt
import Derived.Deep.AppendLies
import Derived.Deep.RegionLaw
namespace Go.Proofs.Ytinfbbbgfkaioaa
open Go.RowKit
set_option linter.unusedVariables false
set_option linter.unusedSimpArgs false
/-- The guard's place; the lights and the guards that are left. -/
def gdT (G : Nat → Gu) (work : Int) (ng : Nat) : Nat := (fnd (gli G) work ng).toNat
def gdL (L : Nat → Li) (n : Nat) (G : Nat → Gu) (ng : Nat) (work : Int) (i : Nat) : Li := L (two (fnd L work n).toNat (fnd L (G (gdT G work ng)).sp n).toNat i)
def gdG (G : Nat → Gu) (ng : Nat) (work : Int) (i : Nat) : Gu := G (skp (gdT G work ng) i)
/-- A code, lights and guards, to be read. -/
def OutG (w : World) (c : Int) (lv gv : Value) (n : Nat) (L : Nat → Li) (m : Nat) (G : Nat → Gu) : Prop := (c ≠ 0 ∧ lv = .slice none 0 0 ∧ gv = .slice none 0 0) ∨ (c = 0 ∧ RdL w lv n L ∧ Rg w gv m G)
theorem OutG.later {w w' : World} {c : Int} {lv gv : Value} {n m : Nat} {L : Nat → Li} {G : Nat → Gu} (h : OutG w c lv gv n L m G) (hb : Below w.heap.size w w') : OutG w' c lv gv n L m G := by
  rcases h with h | ⟨h0, h1, h2⟩
  · exact Or.inl h
  · exact Or.inr ⟨h0, h1.later hb, RdV.later h2 hb⟩
theorem OutG.shape {w : World} {c : Int} {lv gv : Value} {n m : Nat} {L : Nat → Li} {G : Nat → Gu} (h : OutG w c lv gv n L m G) : (∃ ao k cap, lv = .slice ao k cap) ∧ ∃ ao k cap, gv = .slice ao k cap := by
  rcases h with ⟨_, e1, e2⟩ | ⟨_, h1, h2⟩
  · exact ⟨⟨_, _, _, e1⟩, _, _, _, e2⟩
  · obtain ⟨ao, cap, e⟩ := h1.shape
    obtain ⟨ao', cap', e'⟩ := rg_shape h2
    exact ⟨⟨_, _, _, e⟩, _, _, _, e'⟩
/-- The lights of a right list, but one: few, none without a path. -/
theorem skp_few {nodes slots : Int} {nf : Nat} {F : Nat → Fb} {n M a : Nat} {L : Nat → Li} (h : Nt.AllOk nodes slots nf F n L) (hn : n = M + 1) (h40 : n ≤ 40) (ha : a < n) : LFew M (fun i => L (skp a i)) ∧ (∀ i, i < M → 0 < (L (skp a i)).np) ∧ (∀ i, i < M → skp a i < n) := by
  have lt : ∀ i, i < M → skp a i < n := fun i hi => by unfold skp; split <;> omega
  refine ⟨⟨by omega, ?_⟩, fun i hi => (h.ok _ (lt i hi)).one, lt⟩
  have key : ∀ k, k ≤ M → Sm (fun i => (L (skp a i)).np) k ≤ 8 * k := by
    intro k
    induction k with
    | zero => intro _; simp [Sm]
    | succ k ih =>
      intro hk
      have h1 := ih (by omega)
      have h2 : (L (skp a k)).np ≤ 8 := (h.ok _ (lt k (by omega))).few
      show Sm (fun i => (L (skp a i)).np) k + (L (skp a k)).np ≤ _
      omega
  have := key M (Nat.le_refl _)
  show Sm (fun i => (L (skp a i)).np) M ≤ 1048576
  omega
theorem two_few {nodes slots : Int} {nf : Nat} {F : Nat → Fb} {n M a b : Nat} {L : Nat → Li} (h : Nt.AllOk nodes slots nf F n L) (hn : n = M + 2) (h40 : n ≤ 40) : LFew M (fun i => L (two a b i)) := by
  have lt : ∀ i, i < M → two a b i < n := fun i hi => by have := two_lt (a := a) (b := b) hi; omega
  refine ⟨by omega, ?_⟩
  have key : ∀ k, k ≤ M → Sm (fun i => (L (two a b i)).np) k ≤ 8 * k := by
    intro k
    induction k with
    | zero => intro _; simp [Sm]
    | succ k ih =>
      intro hk
      have h1 := ih (by omega)
      have h2 : (L (two a b k)).np ≤ 8 := (h.ok _ (lt k (by omega))).few
      show Sm (fun i => (L (two a b i)).np) k + (L (two a b k)).np ≤ _
      omega
  have := key M (Nat.le_refl _)
  show Sm (fun i => (L (two a b i)).np) M ≤ 1048576
  omega
theorem gd_good {nodes slots : Int} {nf : Nat} {F : Nat → Fb} {nl : Nat} {L : Nat → Li} (h : Nt.lfault nodes slots nf F nl L = 0) : nl ≤ 40 ∧ Nt.AllOk nodes slots nf F nl L := by
  unfold Nt.lfault at h
  by_cases z : Nt.nfault nodes slots nf F = 0
  · rw [if_pos z] at h
    by_cases y : 40 < (nl : Int)
    · rw [if_pos y] at h; omega
    · rw [if_neg y] at h
      exact ⟨by omega, Nt.allOk h⟩
  · rw [if_neg z] at h; exact absurd h z
theorem own_keep3 {w w' : World} {base n m : Nat} {t : TypeId} {v : Value} {xs : List Value} (h : w.ownsRow base t m v n xs) (hk : ∀ k, base ≤ k → k < w.heap.size → w'.heap[k]? = w.heap[k]?) : w'.ownsRow base t m v n xs := by
  obtain ⟨h0, h1 | ⟨g, cap, cur, hv, hg, hh, r⟩⟩ := h
  · exact ⟨h0, Or.inl h1⟩
  · exact ⟨h0, Or.inr ⟨g, cap, cur, hv, hg, (hk g hg (Array.getElem?_eq_some_iff.1 hh).1).trans hh, r⟩⟩
theorem own_gds {w : World} {base n : Nat} {v : Value} {G : Nat → Gu} (h : w.ownsRow base 77 2 v n (flat (fun i => grow2 (G i)) n)) : Rg w v n G := by
  by_cases e : v = .slice none 0 0
  · obtain ⟨_, ⟨_, h2⟩ | ⟨g, cap, cur, hv, _⟩⟩ := h
    · exact Or.inl ⟨none, 0, e, h2⟩
    · rw [e] at hv; simp at hv
  · obtain ⟨g, cp, rfl, hg, hsg⟩ := owned_segV (m := 2) (F := fun i => grow2 (G i)) (f := fun i j => gcell (G i) j) (fun _ => rfl) (fun a ha j hj => grow2_at _ j hj) h e
    exact hsg.rd
theorem step_pushV {ops : Array Oper} {o : Oper} {a : Act} {K : Act → World → Prop} {Q : Exit → Act → World → Prop} {E : Prop} (hgd : o.guard = none) (s x : Operand) (t : TypeId)
    (ho : o.op = .call { callee := .builtin .append, args := #[s, x], argTypes := #[t, t] }) (e : TypeId) (z : Value) (m bytes : Nat) (ht : Try.prog.underlying t = some (.slice e))
    (hinfo : (Try.prog.info? e).map (fun i => (i.zero, i.size, i.bytes)) = some (some z, m, bytes)) (hz1 : z.cells.size = m) (hm : 0 < m) (hby : bytes ≤ 100) (w : World) (us : List Value) (hul : us.length = m) (hu : ∀ u ∈ us, u.oneCell' = true)
    (base : Nat) (v : Value) (n : Nat) (xs : List Value) (hs : a.eval s = v) (hown : w.ownsRow base e m v n xs) (c : Nat) (hx : a.eval x = .slice (some ⟨w.heap.size, 0, none⟩) 1 c) (hn : n ≤ 1000000000) (hbase : base ≤ w.heap.size)
    (h : ∀ v' w', w'.ownsRow base e m v' (n + 1) (xs ++ us) → (w.alloc (.cells us.toArray e)).grownBy w' v.ownBlock → K (a.put o.dst v') w') :
    if Region.wanted o (yielded ops a.tmps) = true then Oper.wp Try.prog o a (w.alloc (.cells us.toArray e)) K Q else E := by
  obtain ⟨i, h1, h2, h3, h4⟩ := infoV_parts hinfo
  refine step_append_lies _ hgd s x t ho base e i z m bytes ht h1 h2 h3 h4 hz1 hm v n xs hs (hown.alloc _) ⟨w.heap.size, 0, none⟩ 1 c us hx (by omega) ?_ hu (by decide) ?_ ?_ ?_ _ rfl fun g cap w' a1 a2 _ _ => h _ w' a1 a2
  · intro j u hj
    have : (w.alloc (.cells us.toArray e)).heap[w.heap.size]? = some (.cells us.toArray e) := heap_alloc_new _ _
    have e0 : (⟨w.heap.size, 0, none⟩ : Addr).add j = ⟨w.heap.size, j, none⟩ := by
      unfold Addr.add
      split
      · rename_i h; subst h; rfl
      · simp
    rw [e0]
    unfold World.cell?
    rw [this]
    simpa using hj
  · unfold maxLen; omega
  · have : (n + 1) * bytes ≤ (n + 1) * 100 := Nat.mul_le_mul_left _ hby
    omega
  · simp; omega
theorem own_succ {w : World} {base k m : Nat} {t : TypeId} {v : Value} {xs : List Value} (h : w.ownsRow base t m v (k + 1) xs) : ∃ g cap, v = .slice (some ⟨g, 0, none⟩) (k + 1) cap := by
  obtain ⟨_, ⟨_, h2⟩ | ⟨g', cap, cur, rfl, _⟩⟩ := h
  · omega
  · exact ⟨_, _, rfl⟩
theorem row_shape {w : World} {base n m : Nat} {t : TypeId} {v : Value} {xs : List Value} (h : w.ownsRow base t m v n xs) : ∃ ao cap, v = .slice ao n cap := by
  obtain ⟨_, ⟨rfl, rfl⟩ | ⟨g', cap, cur, rfl, _⟩⟩ := h
  · exact ⟨_, _, rfl⟩
  · exact ⟨_, _, rfl⟩
end Go.Proofs.Ytinfbbbgfkaioaa
