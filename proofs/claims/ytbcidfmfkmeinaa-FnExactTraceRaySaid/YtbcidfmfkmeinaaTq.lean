/- Lists of rays that grow, for the trace; what stops a ray at a face, told at once. -/
import Derived.Test.YtbcidfmfkmeinaaTp
import Derived.Test.YtbcidfmfkmeinaaPs
import Derived.Test.YtbcidfmfkmeinaaRw
import Derived.Test.YtbcidfmfkmeinaaVr
namespace Go.Proofs.Ytbcidfmfkmeinaa
open Go.RowKit Fl
set_option linter.unusedVariables false
theorem iPass_any {g a b : Nat → Nat} {G : Nat → Option Nat} {l i : Nat} {I : Option Nat} (o : Option Hit) (hg : Gc g G) (hh : Hc l a b (hOf o)) (hi : Fc i I) (w : World) : Calls Try.prog 18 #[Gv g, Mv (codeOf o) (hOf o).steps l a b, .float .f64 i] w fun e w' => ∃ r, e = .returned (Qv (passC G o I).1 r) ∧ Rc r (passC G o I).2 ∧ Below w.heap.size w w' := by
  cases o with
  | none => exact (iPass_none (G := G) (I := I) w).mono fun e w' ⟨h, b⟩ => ⟨_, h, rc_zero, b⟩
  | some h => exact iPass_some _ hg hh hi w
theorem makeRa (n : Nat) (hn : n ≤ 1000000) (w : World) : (Instr.makeSlice 27 (.int .i64 0) (.int .i64 (n : Int))).run Try.prog w = .ok (.slice (some ⟨w.heap.size, 0, none⟩) 0 n) (w.alloc (.cells (madeCells #[.float .f64 0, .float .f64 0, .float .f64 0, .float .f64 0, .float .f64 0, .float .f64 0] (n * 6)) 33)) := by
  obtain ⟨i, hi, hzz⟩ := Option.map_eq_some_iff.1 info27
  simp only [Prod.mk.injEq] at hzz
  obtain ⟨hz, hs, hb⟩ := hzz
  have hr := run_make (P := Try.prog) w 27 33 i _ Try.underlying27 hi hz .i64 .i64 0 n (by omega) (by omega) (by rw [hb]; omega) (by omega)
  rw [hs] at hr
  simpa [Value.cells] using hr
theorem own_form {W : World} {B m n : Nat} {t : TypeId} {v : Value} {xs : List Value} (h : W.ownsRow B t m v n xs) : ∃ ao cp, v = .slice ao n cp := by
  obtain ⟨_, ⟨h1, h2⟩ | ⟨g, cap, cur, hv, _⟩⟩ := h
  · subst h2; exact ⟨_, _, h1⟩
  · exact ⟨_, _, hv⟩
/-- A list of k rays that grows from B on. -/
def OwT (B : Nat) (W : World) (V : Value) (k : Nat) (R : Nat → Nat → Nat) : Prop := W.ownsRow B 33 6 V k (flat (rrow R) k) ∧ B ≤ W.heap.size
namespace OwT
variable {B k : Nat} {W W' : World} {V : Value} {R : Nat → Nat → Nat}
theorem later (h : OwT B W V k R) (b : Below W.heap.size W W') : OwT B W' V k R := ⟨owns_later h.1 b, Nat.le_trans h.2 b.size⟩
theorem low (h : OwT B W V k R) {b : Nat} (hb : b < B) : V.ownBlock ≠ some b := fun e => by have := (h.1.lt b e).1; omega
theorem ne (h : OwT B W V k R) {b : Nat} {cs : Array Value} {t : TypeId} (x : Blk W b cs t) (ht : t ≠ 33) : V.ownBlock ≠ some b := by
  intro e
  obtain ⟨_, ⟨rfl, _⟩ | ⟨g, cap, cur, rfl, _, hh, _⟩⟩ := h.1
  · simp [Value.ownBlock] at e
  · simp only [Value.ownBlock, Option.some.injEq] at e
    subst e
    have y : W.heap[g]? = _ := x
    rw [hh] at y
    simp only [Option.some.injEq, Obj.cells.injEq] at y
    exact ht y.2.1.symm
theorem set (h : OwT B W V k R) {b j : Nat} (hb : V.ownBlock ≠ some b) (u : Value) : OwT B (W.setCell ⟨b, j, none⟩ u) V k R := by
  refine ⟨?_, by simpa [World.setCell] using h.2⟩
  obtain ⟨h0, hn | ⟨g, cap, cur, rfl, hg, hh, r⟩⟩ := h.1
  · exact ⟨h0, Or.inl hn⟩
  · have : g ≠ b := fun e => hb (by rw [e]; rfl)
    exact ⟨h0, Or.inr ⟨g, cap, cur, rfl, hg, (Below.heap_setCell _ _ _ _ this).trans hh, r⟩⟩
theorem drewN (h : OwT B W V k R) (q : Nat) : OwT B (W.drewN q) V k R := h
theorem res (h : OwT B W V k R) {lo r : Nat} {c2 : Array Value} (hl : lo ≤ B) (hr : V.ownBlock ≠ some r) : OwR (W.setRow r c2) lo V k R := by
  rcases Nat.eq_zero_or_pos k with h0 | h0
  · subst h0
    obtain ⟨_, hn | ⟨g, cp, cur, hv, _⟩⟩ := h.1
    · exact Or.inl ⟨rfl, none, 0, hn.1⟩
    · exact Or.inl ⟨rfl, _, _, hv⟩
  · have hnn : V ≠ .slice none 0 0 := by
      intro e
      obtain ⟨_, hn | ⟨g, cp, cur, hv, _⟩⟩ := h.1
      · omega
      · rw [e] at hv; simp at hv
    obtain ⟨g, c, e, h1, h2⟩ := owned_segV (F := rrow R) (m := 6) (f := fun i j => fcl (R i) j) (fun i => rfl) (fun i hi j hj => match j, hj with | 0, _ => rfl | 1, _ => rfl | 2, _ => rfl | 3, _ => rfl | 4, _ => rfl | 5, _ => rfl) h.1 hnn
    have hgr : g ≠ r := fun q => hr (by rw [e, q]; rfl)
    exact Or.inr ⟨g, c, e, Nat.le_trans hl h1, h2.of_block (setRow_other _ _ _ _ hgr)⟩
theorem form (h : OwT B W V k R) : ∃ ao cp, V = .slice ao k cp := by
  obtain ⟨_, ⟨h1, h2⟩ | ⟨g, cap, cur, hv, _⟩⟩ := h.1
  · subst h2; exact ⟨_, _, h1⟩
  · exact ⟨_, _, hv⟩
theorem push (h : OwT B W V k R) {g : Nat → Nat} {v' : Value} {o : Obj} (own : W'.ownsRow B 33 6 v' (k + 1) (flat (rrow R) k ++ [.float .f64 (g 0), .float .f64 (g 1), .float .f64 (g 2), .float .f64 (g 3), .float .f64 (g 4), .float .f64 (g 5)])) (gr : (W.alloc o).grownBy W' V.ownBlock) : OwT B W' v' (k + 1) (addQ R k g) :=
  ⟨by rw [← rrow_add]; exact own, Nat.le_trans h.2 (push_below h.1 gr (Below.refl _ _) h.2).size⟩
end OwT
end Go.Proofs.Ytbcidfmfkmeinaa
