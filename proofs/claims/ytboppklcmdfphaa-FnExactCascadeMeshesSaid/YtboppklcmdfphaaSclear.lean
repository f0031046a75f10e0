/- The specification's clearing of rows: the memory that it works on; an append within a region that draws its order. -/
import Derived.Test.YtboppklcmdfphaaSmul
import Derived.Test.YtboppklcmdfphaaElimall
import Derived.Deep.RegionLaw
namespace Go.Proofs.Ytboppklcmdfphaa
open Go.RowKit
set_option linter.unusedVariables false
/-- What append has built, its room told too. -/
theorem owned_seg2 {w : World} {base n : Nat} {t : TypeId} {v : Value} {f : Nat → Value} (h : w.ownsRow base t 1 v n ((List.range n).map f)) (hn : 0 < n) :
    ∃ g cap, v = .slice (some ⟨g, 0, none⟩) n cap ∧ base ≤ g ∧ n ≤ cap ∧ Seg w g t 0 n f := by
  obtain ⟨g, cap, hv, hg, hs⟩ := owned_seg h hn
  obtain ⟨_, h | ⟨g', cap', cur, hv', _, _, h1, _⟩⟩ := h
  · omega
  · rw [hv] at hv'
    simp at hv'
    exact ⟨g, cap, hv, hg, by omega, hs⟩
/-- A matrix whose rows are only read: block b holds n rows of wd numbers. -/
def Sp (w : World) (b n wd : Nat) (A : Rm.Mx) : Prop :=
  ∃ vs : Nat → Value, Seg w b 32 0 n vs ∧ ∀ i, i < n → ∃ g cp, vs i = .slice (some ⟨g, 0, none⟩) wd cp ∧ wd ≤ cp ∧ Seg w g 2 0 wd (fun j => .int .i64 (A i j))
theorem Sp.later {w w' : World} {b n wd : Nat} {A : Rm.Mx} (h : Sp w b n wd A) (hb : Below w.heap.size w w') : Sp w' b n wd A := by
  obtain ⟨vs, h1, h2⟩ := h
  refine ⟨vs, h1.of_block (hb.block _ h1.lt), fun i hi => ?_⟩
  obtain ⟨g, cp, e, hcp, hs⟩ := h2 i hi
  exact ⟨g, cp, e, hcp, hs.of_block (hb.block _ hs.lt)⟩
theorem Sp.congr {w : World} {b n wd : Nat} {A B : Rm.Mx} (h : Sp w b n wd A) (e : ∀ i j, i < n → j < wd → A i j = B i j) : Sp w b n wd B := by
  obtain ⟨vs, h1, h2⟩ := h
  refine ⟨vs, h1, fun i hi => ?_⟩
  obtain ⟨g, cp, e1, hcp, hs⟩ := h2 i hi
  exact ⟨g, cp, e1, hcp, hs.congr fun j hj => by rw [e i j hi hj]⟩
theorem Sp.at {w : World} {b n wd : Nat} {A : Rm.Mx} (h : Sp w b n wd A) {i : Nat} (hi : i < n) :
    ∃ g cp, w.cell? ⟨b, i, none⟩ = some (.slice (some ⟨g, 0, none⟩) wd cp) ∧ (w.frozen? ⟨b, i, none⟩ = false ∧ wd ≤ cp) ∧ Seg w g 2 0 wd (fun j => .int .i64 (A i j)) := by
  obtain ⟨vs, h1, h2⟩ := h
  obtain ⟨g, cp, e, hcp, hs⟩ := h2 i hi
  refine ⟨g, cp, ?_, ⟨h1.frozen _, hcp⟩, hs⟩
  rw [← e]
  simpa using h1.cell hi
theorem Sp.ne {w : World} {b n wd : Nat} {A : Rm.Mx} (h : Sp w b n wd A) {g off m : Nat} {f : Nat → Value} (hs : Seg w g 2 off m f) : g ≠ b := by
  obtain ⟨vs, h1, _⟩ := h
  exact hs.ne h1 (by decide)
theorem Sp.put {w : World} {b n wd : Nat} {A : Rm.Mx} (h : Sp w b n wd A) {k g cp : Nat} {G : Nat → Int} (hk : k < n) (hcp : wd ≤ cp) (hg : Seg w g 2 0 wd (fun j => .int .i64 (G j))) :
    Sp (w.setCell ⟨b, k, none⟩ (.slice (some ⟨g, 0, none⟩) wd cp)) b n wd (fun i j => if i = k then G j else A i j) := by
  have hgb := h.ne hg
  obtain ⟨vs, h1, h2⟩ := h
  have ht := h1.set k hk (.slice (some ⟨g, 0, none⟩) wd cp)
  rw [Nat.zero_add] at ht
  refine ⟨_, ht, fun i hi => ?_⟩
  by_cases e : i = k
  · subst e
    exact ⟨g, cp, by simp, hcp, (hg.setOther hgb _).congr fun j _ => by simp⟩
  · obtain ⟨g', cp', e1, hcp', hs⟩ := h2 i hi
    exact ⟨g', cp', by simp [e, e1], hcp', (hs.setOther (hs.ne h1 (by decide)) _).congr fun j _ => by simp [e]⟩
theorem Sp.lt {w : World} {b n wd : Nat} {A : Rm.Mx} (h : Sp w b n wd A) : b < w.heap.size := by
  obtain ⟨vs, h1, _⟩ := h
  exact h1.lt
/-- 'append(row, x)' as one step of a region that draws its order. -/
theorem step_push {ops : Array Oper} {o : Oper} {a : Act} {K : Act → World → Prop} {Q : Exit → Act → World → Prop} {E : Prop} (hg : o.guard = none) (s x : Operand) (t : TypeId)
    (hop : o.op = Op.call { callee := Callee.builtin Builtin.append, args := #[s, x], argTypes := #[t, t] }) (e : TypeId) (z : Value) (bytes : Nat) (ht : Try.prog.underlying t = some (.slice e))
    (hinfo : (Try.prog.info? e).map (fun i => (i.zero, i.size, i.bytes)) = some (some z, 1, bytes)) (hz1 : z.cells.size = 1) (hby : bytes ≤ 24) {W : World} (w : World) (u : Value) (hW : W = w.alloc (.cells #[u] e)) (hu : u.oneCell' = true)
    (base : Nat) (v : Value) (n : Nat) (xs : List Value) (hs : a.eval s = v) (hown : w.ownsRow base e 1 v n xs) (c : Nat) (hx : a.eval x = .slice (some ⟨w.heap.size, 0, none⟩) 1 c) (hn : n ≤ 1000000) (hbase : base ≤ w.heap.size)
    (hK : ∀ v' w', w'.ownsRow base e 1 v' (n + 1) (xs ++ [u]) → (w.alloc (.cells #[u] e)).grownBy w' v.ownBlock → K (a.put o.dst v') w') :
    if Region.wanted o (yielded ops a.tmps) = true then Oper.wp Try.prog o a W K Q else E := by
  subst hW
  have hw : Region.wanted o (yielded ops a.tmps) = true := by simp [Region.wanted, hg]
  rw [if_pos hw]
  obtain ⟨i, h1, h2, h3, h4⟩ := info_parts hinfo
  obtain ⟨v', w', hrun, r1, r2, _⟩ := run_append_own (P := Try.prog) (w.alloc (.cells #[u] e)) base t o.type e i z 1 bytes ht h1 h2 h3 h4 hz1 (by decide) v n xs (hown.alloc _) ⟨w.heap.size, 0, none⟩ 1 c [u] rfl
    (by
      intro j y hj
      match j, hj with
      | 0, hj => simp at hj; subst hj; simp [Addr.add])
    (by intro y hy; simp at hy; subst hy; exact hu) (by unfold maxLen; omega)
    (by have : (n + 1) * bytes ≤ (n + 1) * 24 := Nat.mul_le_mul_left _ hby
        omega) (by simp; omega)
  unfold Oper.wp
  simp [execOp, hop, resolve, invoke, builtin, hs, hx, hrun, Result.andThen]
  exact hK v' w' r1 r2
end Go.Proofs.Ytboppklcmdfphaa
