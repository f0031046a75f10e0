/- The longer formula: its contract. -/
import Derived.Test.YtndfncjoknibaaaDoorFx
namespace Go.Proofs.YtndfncjoknibaaaDoor
open Go.RowKit Fl
set_option linter.unusedVariables false
set_option maxHeartbeats 3200000 in
theorem six_any {b off cap : Nat} {f : Nat → Int} {q : Nat} {o : Option Nat} {w : World} (hq : Fc q o) (hc : ∀ i, i < 6 → w.cell? ⟨b, off + i, none⟩ = some (.int .i64 (f i))) :
    FV 74 #[.slice (some ⟨b, off, none⟩) 6 cap, .float .f64 q] w (sixN f o 3) := by
  have hadd := add_run
  have hsub := sub_run
  have hmul := mul_run
  have hquo := quo_run
  have hc1 := cell_opW
  have HC : Hid (∀ i, i < 6 → ∀ W, Below w.heap.size w W → W.cell? ⟨b, off + i, none⟩ = some (.int .i64 (f i))) := fun i hi W h => (h.cell (World.block_lt_of_cell? _ _ (hc i hi))).trans (hc i hi)
  clear hc
  unfold FV
  go_enter Tryd.func74, Tryd.ntmps74
  go_wp2_with fail
  go_loopw [5, 6] (fun s i wr => ∃ (j v : Nat), ((j = 0 ∧ i = .int .i64 0) ∨ (j = 1 ∧ i = .int .i64 2) ∨ (j = 2 ∧ i = .int .i64 4) ∨ (j = 3 ∧ i = .int .i64 6)) ∧ s = .float .f64 v ∧ Fc v (sixN f o j) ∧ Below w.heap.size w wr) (fun _ i _ => 6 - (intOf i).toNat)
  case atStart => exact ⟨0, _, by simp, rfl, fc_own (by omega), Below.refl _ _⟩
  case round =>
    obtain ⟨j, v, hj, rfl, hv, hR⟩ := hrel
    rcases hj with ⟨rfl, rfl⟩ | ⟨rfl, rfl⟩ | ⟨rfl, rfl⟩ | ⟨rfl, rfl⟩
    · have g0 : ∀ W, Below w.heap.size w W → W.cell? ⟨b, off, none⟩ = some (.int .i64 (f 0)) := HC.out 0 (by omega)
      have g1 : ∀ W, Below w.heap.size w W → W.cell? ⟨b, off + 1, none⟩ = some (.int .i64 (f 1)) := HC.out 1 (by omega)
      go_wp2_with fail
      go_region_held (fun W => Below w.heap.size w W) (first | with_reducible assumption | with_reducible exact Below.drew ‹_› | with_reducible exact below_opW ‹_›)
        (first | (go_at_call 95; refine (part_any _ _).mono ?_; rintro e w4 ⟨v, rfl, hv, hb⟩; have hR4 := box_step ‹Below w.heap.size w _› hb (Nat.le_refl _); clear hb))
      all_goals
        go_wp2
        go_roundw
        case rel => exact ⟨1, _, by simp, rfl, (by show Fc _ (stepC (f 0) (f 1) o (sixN f o 0)); unfold stepC; repeat' (first | with_reducible assumption | (refine fc_op _ ?_ ?_ _))), by with_reducible assumption⟩
        case measure => simp [intOf]
    · have g0 : ∀ W, Below w.heap.size w W → W.cell? ⟨b, off + 2, none⟩ = some (.int .i64 (f 2)) := HC.out 2 (by omega)
      have g1 : ∀ W, Below w.heap.size w W → W.cell? ⟨b, off + 3, none⟩ = some (.int .i64 (f 3)) := HC.out 3 (by omega)
      go_wp2_with fail
      go_region_held (fun W => Below w.heap.size w W) (first | with_reducible assumption | with_reducible exact Below.drew ‹_› | with_reducible exact below_opW ‹_›)
        (first | (go_at_call 95; refine (part_any _ _).mono ?_; rintro e w4 ⟨v, rfl, hv, hb⟩; have hR4 := box_step ‹Below w.heap.size w _› hb (Nat.le_refl _); clear hb))
      all_goals
        go_wp2
        go_roundw
        case rel => exact ⟨2, _, by simp, rfl, (by show Fc _ (stepC (f 2) (f 3) o (sixN f o 1)); unfold stepC; repeat' (first | with_reducible assumption | (refine fc_op _ ?_ ?_ _))), by with_reducible assumption⟩
        case measure => simp [intOf]
    · have g0 : ∀ W, Below w.heap.size w W → W.cell? ⟨b, off + 4, none⟩ = some (.int .i64 (f 4)) := HC.out 4 (by omega)
      have g1 : ∀ W, Below w.heap.size w W → W.cell? ⟨b, off + 5, none⟩ = some (.int .i64 (f 5)) := HC.out 5 (by omega)
      go_wp2_with fail
      go_region_held (fun W => Below w.heap.size w W) (first | with_reducible assumption | with_reducible exact Below.drew ‹_› | with_reducible exact below_opW ‹_›)
        (first | (go_at_call 95; refine (part_any _ _).mono ?_; rintro e w4 ⟨v, rfl, hv, hb⟩; have hR4 := box_step ‹Below w.heap.size w _› hb (Nat.le_refl _); clear hb))
      all_goals
        go_wp2
        go_roundw
        case rel => exact ⟨3, _, by simp, rfl, (by show Fc _ (stepC (f 4) (f 5) o (sixN f o 2)); unfold stepC; repeat' (first | with_reducible assumption | (refine fc_op _ ?_ ?_ _))), by with_reducible assumption⟩
        case measure => simp [intOf]
    · go_wp2
      go_ret
      exact ⟨_, rfl, hv, hR⟩
end Go.Proofs.YtndfncjoknibaaaDoor
