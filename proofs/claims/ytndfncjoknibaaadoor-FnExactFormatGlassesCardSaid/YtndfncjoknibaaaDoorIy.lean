/- A glass's index by the specification, the longer formula: its contract. -/
import Derived.Test.YtndfncjoknibaaaDoorIx
namespace Go.Proofs.YtndfncjoknibaaaDoor
open Go.RowKit Fl
set_option linter.unusedVariables false
set_option maxHeartbeats 3200000 in
theorem sIx1 {s : ByteArray} {lo hi nm : Int} {b off cap : Nat} {f : Nat → Int} {x : Nat} {w : World} (hx : x < 18446744073709551616) (hc : ∀ i, i < 6 → w.cell? ⟨b, off + i, none⟩ = some (.int .i64 (f i))) :
    FV 51 #[.agg #[.string s, .int .i64 1, .int .i64 lo, .int .i64 hi, .slice (some ⟨b, off, none⟩) 6 cap, .float .f64 x], .int .i64 nm] w (opC .add (sqO (sixN f (wC nm) 3)) (cl x)) := by
  have hadd := add_run
  have hsub := sub_run
  have hmul := mul_run
  have hquo := quo_run
  have hcv := conv_run
  have hc1 := cell_opW
  unfold FV
  go_enter Tryd.func51, Tryd.ntmps51
  obtain ⟨X, hX⟩ : ∃ X, X = w.alloc (.cells #[.string s, .int .i64 1, .int .i64 lo, .int .i64 hi, .slice (some ⟨b, off, none⟩) 6 cap, .float .f64 x] 28) := ⟨_, rfl⟩
  have HX : Hid (Below w.heap.size w X ∧ Six X w.heap.size (.string s) (.int .i64 1) (.int .i64 lo) (.int .i64 hi) (.slice (some ⟨b, off, none⟩) 6 cap) (.float .f64 x) ∧ (∀ i, i < 6 → X.cell? ⟨b, off + i, none⟩ = some (.int .i64 (f i))) ∧ X.heap.size = w.heap.size + 1) := by
    rw [hX]; exact ⟨(Below.refl _ _).alloc (Nat.le_refl _) _, six_new _ _ _ _ _ _ _ _, fun i hi => alloc_keeps (hc i hi), by simp⟩
  clear hc
  go_wp2_with fail
  rw [← hX]
  clear hX
  obtain ⟨q, hq⟩ : ∃ q, q = opV .mul (opV .quo (fi nm) 4652007308841189376 X) (opV .quo (fi nm) 4652007308841189376 X) (opW .quo (fi nm) 4652007308841189376 X) := ⟨_, rfl⟩
  have hqc : Fc q (wC nm) := by
    have h1 : Fc (opV .quo (fi nm) 4652007308841189376 X) (lC nm) := fc_op _ (fc_own (fi_lt nm)) (fc_own (by omega)) _
    rw [hq]
    exact fc_op _ h1 h1 _
  obtain ⟨Y, hY⟩ : ∃ Y, Y = opW .mul (opV .quo (fi nm) 4652007308841189376 X) (opV .quo (fi nm) 4652007308841189376 X) (opW .quo (fi nm) 4652007308841189376 X) := ⟨_, rfl⟩
  have HY : Hid (Below X.heap.size X Y) := by
    have h1 : Below X.heap.size X Y := by rw [hY]; exact below_opW (below_opW (Below.refl _ _))
    exact h1
  rw [← hq, ← hY]
  clear hq hY
  go_loopw [7, 8] (fun v i wr => ∃ (j : Nat) (z : Int), j ≤ 6 ∧ z = j ∧ i = .int .i64 z ∧ Parts X X.heap.size wr v j f) (fun _ i _ => 6 - (intOf i).toNat)
  case atStart =>
    have hz : X.heap.size ≤ Y.heap.size := HY.out.size
    refine ⟨0, 0, by omega, rfl, rfl, ⟨⟨fun _ => 0, ?_, fun p hp => by omega⟩, by simp, HY.out.alloc hz _⟩⟩
    obtain ⟨e1, h | ⟨g, cp, cur, h1, h2, h3⟩⟩ := owns_empty Y 23 1
    · simp at h
    · exact ⟨e1, Or.inr ⟨g, cp, cur, h1, Nat.le_trans hz h2, h3⟩⟩
  case round =>
    obtain ⟨j, z, hj, hz, rfl, HP⟩ := hrel
    have HPH : Hid (Parts X X.heap.size wr u7 j f) := HP
    have hS := HX.out.2.1.later HP.below
    clear HP
    obtain ⟨c0, c1, c2, c3, c4, c5⟩ := hS
    clear c0 c2 c3
    by_cases hlt : j < 6
    · clear c1 c5
      subst hz
      have g1 : wr.cell? ⟨b, off + j, none⟩ = some (.int .i64 (f j)) := (HPH.out.below.cell (World.block_lt_of_cell? _ _ (HX.out.2.2.1 j hlt))).trans (HX.out.2.2.1 j hlt)
      obtain ⟨g, hg⟩ := HPH.out.ex
      have HG : Hid (wr.ownsRow X.heap.size 23 1 u7 j ((List.range j).map fun p => .float .f64 (g p)) ∧ (∀ p, p < j → Fc (g p) (kC (f p))) ∧ X.heap.size ≤ (opW .quo (fi (f j)) 4741671816366391296 wr).heap.size) := ⟨hg.1, hg.2, by rw [size_opW]; exact HPH.out.below.size⟩
      clear hg
      go_wp2_with (first | (at_builtin; refine push_law rfl (.tmp 26) (.tmp 34) 96 rfl 23 (.float .f64 0) 1 8 Tryd.underlying96 info23 rfl (by decide) (by decide) _ [_] rfl (by simp [Value.oneCell']) X.heap.size u7 j _ rfl (owns_opW HG.out.1) 1 rfl (by omega) HG.out.2.2 ?_; intro v1 w3 own3 grow3 nn3))
      have HN : Hid (Parts X X.heap.size w3 v1 (j + 1) f) := parts_push (w := wr) (owns_opW HG.out.1) HG.out.2.1 (below_opW HPH.out.below) HG.out.2.2 (fc_op _ (fc_own (fi_lt _)) (fc_own (by omega)) _) own3 grow3 nn3
      clear own3 grow3 nn3 HG HPH c4 g1
      go_wp2
      go_roundw
      case rel => exact ⟨j + 1, _, by omega, by rfl, by simp, HN.out⟩
      case measure => simp [intOf]; omega
    · obtain rfl : j = 6 := by omega
      have hz2 : z = 6 := by omega
      clear hz
      subst hz2
      obtain ⟨g, hg⟩ := HPH.out.ex
      obtain ⟨gb, gcap, rfl, hgb, hsg⟩ := owned_seg hg.1 HPH.out.nn
      have k0 : ∀ W, Below wr.heap.size wr W → W.cell? ⟨gb, 0, none⟩ = some (.float .f64 (g 0)) := by
        have h1 : wr.cell? ⟨gb, 0, none⟩ = some (.float .f64 (g 0)) := by simpa [List.range_succ] using hsg.cell (i := 0) (by omega)
        exact fun W h => (h.cell (World.block_lt_of_cell? _ _ h1)).trans h1
      have kc0 : Fc (g 0) (kC (f 0)) := hg.2 0 (by omega)
      have k1 : ∀ W, Below wr.heap.size wr W → W.cell? ⟨gb, 1, none⟩ = some (.float .f64 (g 1)) := by
        have h1 : wr.cell? ⟨gb, 1, none⟩ = some (.float .f64 (g 1)) := by simpa [List.range_succ] using hsg.cell (i := 1) (by omega)
        exact fun W h => (h.cell (World.block_lt_of_cell? _ _ h1)).trans h1
      have kc1 : Fc (g 1) (kC (f 1)) := hg.2 1 (by omega)
      have k2 : ∀ W, Below wr.heap.size wr W → W.cell? ⟨gb, 2, none⟩ = some (.float .f64 (g 2)) := by
        have h1 : wr.cell? ⟨gb, 2, none⟩ = some (.float .f64 (g 2)) := by simpa [List.range_succ] using hsg.cell (i := 2) (by omega)
        exact fun W h => (h.cell (World.block_lt_of_cell? _ _ h1)).trans h1
      have kc2 : Fc (g 2) (kC (f 2)) := hg.2 2 (by omega)
      have k3 : ∀ W, Below wr.heap.size wr W → W.cell? ⟨gb, 3, none⟩ = some (.float .f64 (g 3)) := by
        have h1 : wr.cell? ⟨gb, 3, none⟩ = some (.float .f64 (g 3)) := by simpa [List.range_succ] using hsg.cell (i := 3) (by omega)
        exact fun W h => (h.cell (World.block_lt_of_cell? _ _ h1)).trans h1
      have kc3 : Fc (g 3) (kC (f 3)) := hg.2 3 (by omega)
      have k4 : ∀ W, Below wr.heap.size wr W → W.cell? ⟨gb, 4, none⟩ = some (.float .f64 (g 4)) := by
        have h1 : wr.cell? ⟨gb, 4, none⟩ = some (.float .f64 (g 4)) := by simpa [List.range_succ] using hsg.cell (i := 4) (by omega)
        exact fun W h => (h.cell (World.block_lt_of_cell? _ _ h1)).trans h1
      have kc4 : Fc (g 4) (kC (f 4)) := hg.2 4 (by omega)
      have k5 : ∀ W, Below wr.heap.size wr W → W.cell? ⟨gb, 5, none⟩ = some (.float .f64 (g 5)) := by
        have h1 : wr.cell? ⟨gb, 5, none⟩ = some (.float .f64 (g 5)) := by simpa [List.range_succ] using hsg.cell (i := 5) (by omega)
        exact fun W h => (h.cell (World.block_lt_of_cell? _ _ h1)).trans h1
      have kc5 : Fc (g 5) (kC (f 5)) := hg.2 5 (by omega)
      have e5 : ∀ W, Below wr.heap.size wr W → W.cell? ⟨w.heap.size, 5, none⟩ = some (.float .f64 x) := fun W h => (h.cell (World.block_lt_of_cell? _ _ c5)).trans c5
      have HB : Hid (Below w.heap.size w wr) := HX.out.1.trans (HPH.out.below.mono HX.out.1.size)
      clear hg hsg hgb HPH
      obtain ⟨wq, hwq⟩ : ∃ wq, wq = wr := ⟨_, rfl⟩
      rw [← hwq] at k0 k1 k2 k3 k4 k5 e5 HB
      have H0 : Hid (wr = wq) := hwq.symm
      clear hwq
      go_wp2_with fail
      clear c1 c4 c5
      go_loopw [10, 11] (fun s i wr => ∃ (j v : Nat), ((j = 0 ∧ i = .int .i64 0) ∨ (j = 1 ∧ i = .int .i64 2) ∨ (j = 2 ∧ i = .int .i64 4) ∨ (j = 3 ∧ i = .int .i64 6)) ∧ s = .float .f64 v ∧ Fc v (sixN f (wC nm) j) ∧ Below wq.heap.size wq wr) (fun _ i _ => 6 - (intOf i).toNat)
      case atStart => exact ⟨0, _, by simp, rfl, fc_own (by omega), by rw [H0.out]; exact Below.refl _ _⟩
      case round =>
        obtain ⟨j, v, hj, rfl, hv, hR⟩ := hrel
        rcases hj with ⟨rfl, rfl⟩ | ⟨rfl, rfl⟩ | ⟨rfl, rfl⟩ | ⟨rfl, rfl⟩
        · go_wp2_with fail
          go_region_held (fun W => Below wq.heap.size wq W) (first | with_reducible assumption | with_reducible exact Below.drew ‹_› | with_reducible exact below_opW ‹_›) (fail)
          all_goals
            go_wp2
            go_roundw
            case rel => exact ⟨1, _, by simp, rfl, (by show Fc _ (stepC (f 0) (f 1) (wC nm) (sixN f (wC nm) 0)); unfold stepC; repeat' (first | with_reducible assumption | (refine fc_op _ ?_ ?_ _))), by with_reducible assumption⟩
            case measure => simp [intOf]
        · go_wp2_with fail
          go_region_held (fun W => Below wq.heap.size wq W) (first | with_reducible assumption | with_reducible exact Below.drew ‹_› | with_reducible exact below_opW ‹_›) (fail)
          all_goals
            go_wp2
            go_roundw
            case rel => exact ⟨2, _, by simp, rfl, (by show Fc _ (stepC (f 2) (f 3) (wC nm) (sixN f (wC nm) 1)); unfold stepC; repeat' (first | with_reducible assumption | (refine fc_op _ ?_ ?_ _))), by with_reducible assumption⟩
            case measure => simp [intOf]
        · go_wp2_with fail
          go_region_held (fun W => Below wq.heap.size wq W) (first | with_reducible assumption | with_reducible exact Below.drew ‹_› | with_reducible exact below_opW ‹_›) (fail)
          all_goals
            go_wp2
            go_roundw
            case rel => exact ⟨3, _, by simp, rfl, (by show Fc _ (stepC (f 4) (f 5) (wC nm) (sixN f (wC nm) 2)); unfold stepC; repeat' (first | with_reducible assumption | (refine fc_op _ ?_ ?_ _))), by with_reducible assumption⟩
            case measure => simp [intOf]
        · go_wp2_with fail
          go_region_held (fun W => Below wq.heap.size wq W) (first | with_reducible assumption | with_reducible exact Below.drew ‹_› | with_reducible exact below_opW ‹_›)
            (first | (go_at_call 72; refine (sSqF hv _).mono ?_; rintro e w4 ⟨v4, rfl, hv4, hb⟩; have hR4 := box_step (by with_reducible (first | assumption | exact Below.drew ‹_›) : Below wq.heap.size wq _) hb (Nat.le_refl _); clear hb))
          all_goals
            go_wp2
            go_ret
            exact ⟨_, rfl, fc_op _ hv4 (fc_own hx) _, HB.out.trans (Below.mono (by with_reducible assumption) HB.out.size)⟩
end Go.Proofs.YtndfncjoknibaaaDoor
