/- PartsOf: what both ways want. -/
import Derived.Test.YtfdgnafakjlhaaaPx
import Derived.Handy
import Derived.Deep.RegionHeld3
import Derived.Deep.DeepCutAuto
namespace Go.Proofs.Ytfdgnafakjlhaaa
open Go.RowKit
set_option linter.unusedVariables false
set_option linter.unusedSimpArgs false
theorem cell_ne {W : World} {b c i j : Nat} {u v : Value} (hne : b ≠ c) (h : W.cell? ⟨b, i, none⟩ = some v) : (W.setCell ⟨c, j, none⟩ u).cell? ⟨b, i, none⟩ = some v :=
  (World.cell?_of_block (w := W) (a := ⟨b, i, none⟩) (Below.heap_setCell _ _ _ _ hne)).trans h
theorem sfault_t {x : Q} (h : x.ok = true) (w : World) : Calls Try.prog 49 #[.agg #[.int .i64 x.n, .int .i64 x.d]] w fun e w' => e = .returned (.int .i64 0) ∧ Below w.heap.size w w' := by
  have h1 := sfaultq x w
  have h2 := fault_eq x.n x.d
  rw [show rightB x.n x.d = true from h, beq_iff_eq] at h2
  rwa [h2] at h1
theorem sfault_f {x : Q} (h : x.ok = false) (w : World) : Calls Try.prog 49 #[.agg #[.int .i64 x.n, .int .i64 x.d]] w fun e w' => ∃ c : Int, (c != 0) = true ∧ e = .returned (.int .i64 c) ∧ Below w.heap.size w w' := by
  refine (sfaultq x w).mono fun e w' h1 => ⟨_, ?_, h1⟩
  have h2 := fault_eq x.n x.d
  rw [show rightB x.n x.d = false from h] at h2
  simpa using h2
theorem sof_t {x : Q} (h : x.ok = true) (w : World) : Calls Try.prog 40 #[.agg #[.int .i64 x.n, .int .i64 x.d]] w fun e w' => e = .returned (.agg #[.bool true, .int .i64 x.n, .int .i64 x.d]) ∧ Below w.heap.size w w' := by
  have h1 := sof x w
  rwa [h] at h1
theorem sless_t {x p : Q} (hx : x.ok = true) (hp : p.ok = true) (w : World) : Calls Try.prog 50 #[.agg #[.bool true, .int .i64 x.n, .int .i64 x.d], .agg #[.bool true, .int .i64 p.n, .int .i64 p.d]] w fun e w' => e = .returned (.agg #[.bool (subK x p), .int .i64 (subQ x p).n, .int .i64 (subQ x p).d]) ∧ Below w.heap.size w w' := by
  have h1 := sless true x true p w (ok_bd hp).1 (ok_bd hp).2
  rw [show leK true x true p = subK x p by unfold leK aK; rw [subK_neg]; rfl, show leQ true x true p = subQ x p by unfold leQ aQ; rw [(sub_neg x p).2]; rfl] at h1
  exact h1
theorem owns_low {w : World} {base base' n m : Nat} {t : TypeId} {v : Value} {xs : List Value} (h : w.ownsRow base t m v n xs) (hb : base' ≤ base) : w.ownsRow base' t m v n xs := by
  obtain ⟨h0, h | ⟨g, cap, cur, hv, hg, r⟩⟩ := h
  · exact ⟨h0, Or.inl h⟩
  · exact ⟨h0, Or.inr ⟨g, cap, cur, hv, Nat.le_trans hb hg, r⟩⟩
theorem PSt.fin {w : World} {G : Nat → Ps} {n R q : Nat} {wr : World} {v a b : Value} (h : PSt w G n R q wr v n) (hn : n ≤ 40) : pcode G n = 0 ∧ PAns G n w v ((wr.setCell ⟨R, 0, none⟩ a).setCell ⟨R, 1, none⟩ b) := by
  have hc : pcode G n = 0 := by rw [← h.cd, Nat.sub_self]; rfl
  refine ⟨hc, Or.inr ⟨hc, hn, ?_⟩⟩
  obtain ⟨h0, h1 | ⟨g, cap, cur, hv, hg, hh, h1, h2, h3, h4⟩⟩ := h.own
  · exact absurd h1.1 h.nn
  · have hgR : g ≠ R := by
      intro e
      have h5 : wr.heap[R]? = _ := h.res
      rw [← e, hh] at h5
      simp at h5
    have e1 : ((wr.setCell ⟨R, 0, none⟩ a).setCell ⟨R, 1, none⟩ b).heap[g]? = some (.cells cur 99 (0, 0)) := ((Below.heap_setCell _ _ _ _ hgR).trans (Below.heap_setCell _ _ _ _ hgR)).trans hh
    refine ⟨g, cap, hv, hg, cur, e1, fun i hi j hj => ?_⟩
    have hl : i * 6 + j < n * 6 := idx_lt hj hi
    rw [← flat_at (pp_len G) hi hj, ← h4, List.getElem?_take_of_lt (by omega), Array.getElem?_toList]
theorem infoPt : (Try.prog.info? 99).map (fun i => (i.zero, i.size, i.bytes)) = some (some (.agg #[.int .i64 0, .int .i64 0, .int .i64 0]), 3, 24) := by kernel_rfl
end Go.Proofs.Ytfdgnafakjlhaaa
