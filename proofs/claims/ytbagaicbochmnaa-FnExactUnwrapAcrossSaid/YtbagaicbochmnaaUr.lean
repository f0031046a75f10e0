/- Owned rows: what keeps them, how they are compared, marked and looked for. -/
import Derived.Test.YtbagaicbochmnaaIu
import Derived.Test.YtbagaicbochmnaaMarks
namespace Go.Proofs.Ytbagaicbochmnaa
open Go.RowKit
set_option linter.unusedVariables false
theorem keep_below {lo hi b : Nat} {w w' : World} (h : Below b w w') (hb : hi ≤ b) : Keep lo hi w w' := fun k _ hk => h.block k (by omega)
theorem keep_under {lo hi a b : Nat} {w w' : World} (h : Within a b w w') (hb : hi ≤ a) : Keep lo hi w w' := fun k _ hk => h.below.block k (by omega)
theorem keep_over {lo hi a b : Nat} {w w' : World} (h : Within a b w w') (hb : b ≤ lo) (hs : hi ≤ w.heap.size) : Keep lo hi w w' := fun k h1 h2 => h.above k (by omega) (by omega)
theorem OwnRow.keep {lo hi : Nat} {w w' : World} {v : Value} {n : Nat} {f : Nat → Int} (h : OwnRow lo hi w v n f) (hk : Keep lo hi w w') : OwnRow lo hi w' v n f := by
  rcases h with h | ⟨g, cap, rfl, g1, g2, g3, hm⟩
  · exact Or.inl h
  · exact Or.inr ⟨g, cap, rfl, g1, g2, g3, hm.of_block (hk g g1 g2)⟩
def MkdRow (lo hi : Nat) (w : World) (v : Value) (n : Nat) (r : Int) : Prop := r = 1 + (n : Int) ∧ ((n = 0 ∧ ∃ ao cap, v = .slice ao 0 cap) ∨ ∃ g cap, v = .slice (some ⟨g, 0, none⟩) n cap ∧ lo ≤ g ∧ g < hi ∧ Seg w g 2 0 n (fun i : Nat => .int .i64 (1 + i)))
theorem MkdRow.keep {lo hi : Nat} {w w' : World} {v : Value} {n : Nat} {r : Int} (h : MkdRow lo hi w v n r) (hk : Keep lo hi w w') : MkdRow lo hi w' v n r := by
  obtain ⟨hr, h | ⟨g, cap, rfl, g1, g2, hm⟩⟩ := h
  · exact ⟨hr, Or.inl h⟩
  · exact ⟨hr, Or.inr ⟨g, cap, rfl, g1, g2, hm.of_block (hk g g1 g2)⟩⟩
theorem markRow_any {lo hi : Nat} {w : World} {v : Value} {n : Nat} {f : Nat → Int} (h : OwnRow lo hi w v n f) (hn : n ≤ 1100000) :
    Calls Try.prog 34 #[v, .int .i64 1] w fun e w' => ∃ r, e = .returned (.int .i64 r) ∧ MkdRow lo hi w' v n r ∧ Within lo hi w w' ∧ w'.heap.size = w.heap.size ∧ 0 ≤ r := by
  rcases h with ⟨rfl, ao, cap, rfl, _⟩ | ⟨g, cap, rfl, g1, g2, g3, hm⟩
  · refine (markS_none _ _ _ _).mono ?_
    rintro e w1 ⟨rfl, rfl⟩
    exact ⟨1, rfl, ⟨rfl, Or.inl ⟨rfl, _, _, rfl⟩⟩, Within.refl _ _ _, rfl, by omega⟩
  · refine (markS_some _ _ _ _ _ _ _ (by omega) (by omega) hm).mono ?_
    rintro e w1 ⟨rfl, hm1, hw1, hz1⟩
    exact ⟨_, rfl, ⟨rfl, Or.inr ⟨g, cap, rfl, g1, g2, hm1⟩⟩, hw1.mono g1 g2, hz1, by omega⟩
theorem heldRow_any {lo hi : Nat} {w : World} {v : Value} {n : Nat} {r : Int} (h : MkdRow lo hi w v n r) (hn : n ≤ 1100000) :
    Calls Try.prog 41 #[v, .int .i64 1] w fun e w' => e = .returned (.int .i64 r) ∧ w = w' := by
  obtain ⟨rfl, ⟨rfl, ao, cap, rfl⟩ | ⟨g, cap, rfl, g1, g2, hm⟩⟩ := h
  · exact heldS_none _ _ _ _
  · exact heldS_some _ _ _ _ _ _ (by omega) (by omega) fun i hi => hm.cell hi
end Go.Proofs.Ytbagaicbochmnaa
