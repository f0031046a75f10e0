/- The shorter formula: its contract. -/
import Derived.Test.YtndfncjoknibaaaDoorFx
namespace Go.Proofs.YtndfncjoknibaaaDoor
open Go.RowKit Fl
set_option linter.unusedVariables false
set_option maxHeartbeats 1600000 in
theorem three_any {b off cap : Nat} {f : Nat → Int} {q : Nat} {o : Option Nat} {w : World} (hq : Fc q o) (hc : ∀ i, i < 3 → w.cell? ⟨b, off + i, none⟩ = some (.int .i64 (f i))) :
    FV 75 #[.slice (some ⟨b, off, none⟩) 3 cap, .float .f64 q] w (threeC f o) := by
  have hadd := add_run
  have hmul := mul_run
  have hquo := quo_run
  have hc1 := cell_opW
  have g0 : ∀ W, Below w.heap.size w W → W.cell? ⟨b, off, none⟩ = some (.int .i64 (f 0)) := fun W h => (h.cell (World.block_lt_of_cell? _ _ (hc 0 (by omega)))).trans (hc 0 (by omega))
  have g1 : ∀ W, Below w.heap.size w W → W.cell? ⟨b, off + 1, none⟩ = some (.int .i64 (f 1)) := fun W h => (h.cell (World.block_lt_of_cell? _ _ (hc 1 (by omega)))).trans (hc 1 (by omega))
  have g2 : ∀ W, Below w.heap.size w W → W.cell? ⟨b, off + 2, none⟩ = some (.int .i64 (f 2)) := fun W h => (h.cell (World.block_lt_of_cell? _ _ (hc 2 (by omega)))).trans (hc 2 (by omega))
  clear hc
  have hR : Below w.heap.size w w := Below.refl _ _
  unfold FV
  go_enter Tryd.func75, Tryd.ntmps75
  go_wp2_with fail
  go_region_held (fun W => Below w.heap.size w W) (first | with_reducible assumption | with_reducible exact Below.drew ‹_› | with_reducible exact below_opW ‹_›)
    (first | (go_at_call 95; refine (part_any _ _).mono ?_; rintro e w4 ⟨v, rfl, hv, hb⟩; have hR4 := box_step ‹Below w.heap.size w _› hb (Nat.le_refl _); clear hb))
  all_goals
    go_wp2
    go_ret
    refine ⟨_, rfl, ?_, by with_reducible assumption⟩
    unfold threeC
    repeat' (first | with_reducible assumption | (refine fc_op _ ?_ ?_ _))
end Go.Proofs.YtndfncjoknibaaaDoor
