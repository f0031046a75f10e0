/- A glass's index by the specification: its contract. -/
import Derived.Test.YtndfncjoknibaaaDoorFx
import Derived.Test.YtndfncjoknibaaaDoorPush
namespace Go.Proofs.YtndfncjoknibaaaDoor
open Go.RowKit Fl
set_option linter.unusedVariables false
theorem info23 : (Tryd.prog.info? 23).map (fun i => (i.zero, i.size, i.bytes)) = some (some (.float .f64 0), 1, 8) := by kernel_rfl
theorem owns_opW {op : BinOp} {x y : Nat} {w : World} {base n m : Nat} {t : TypeId} {v : Value} {xs : List Value} (h : w.ownsRow base t m v n xs) : (opW op x y w).ownsRow base t m v n xs :=
  owns_later h (below_opW (Below.refl _ _))
/-- A row of floats under way, each of its class. -/
structure Parts (X : World) (B : Nat) (w : World) (v : Value) (j : Nat) (f : Nat → Int) : Prop where
  ex : ∃ g : Nat → Nat, w.ownsRow B 23 1 v j ((List.range j).map fun p => .float .f64 (g p)) ∧ ∀ p, p < j → Fc (g p) (kC (f p))
  nn : v ≠ .slice none 0 0
  below : Below B X w
theorem parts_push {X : World} {B : Nat} {w W w3 : World} {v v1 : Value} {j : Nat} {f : Nat → Int} {u : Nat} {g : Nat → Nat} (ho : W.ownsRow B 23 1 v j ((List.range j).map fun p => .float .f64 (g p))) (hg : ∀ p, p < j → Fc (g p) (kC (f p))) (hB : Below B X W) (hs : B ≤ W.heap.size)
    (hu : Fc u (kC (f j))) (own3 : w3.ownsRow B 23 1 v1 (j + 1) (((List.range j).map fun p => .float .f64 (g p)) ++ [.float .f64 u])) (grow3 : (W.alloc (.cells #[.float .f64 u] 23)).grownBy w3 v.ownBlock) (nn3 : v1 ≠ .slice none 0 0) : Parts X B w3 v1 (j + 1) f := by
  refine ⟨⟨fun p => if p = j then u else g p, ?_, fun p hp => ?_⟩, nn3, push_below ho grow3 hB hs⟩
  · have e : ((List.range j).map fun p => (.float .f64 (g p) : Value)) ++ [.float .f64 u] = (List.range (j + 1)).map fun p => .float .f64 (if p = j then u else g p) := by
      rw [List.range_succ, List.map_append]
      congr 1
      · apply List.map_congr_left
        intro p hp
        have := List.mem_range.1 hp
        rw [if_neg (by omega)]
      · simp
    rw [← e]
    exact own3
  · by_cases e : p = j
    · simp only [e, if_true]; exact hu
    · simp only [e, if_false]; exact hg p (by omega)
set_option maxHeartbeats 3200000 in
theorem sIx2 {s : ByteArray} {lo hi nm : Int} {b off cap : Nat} {f : Nat → Int} {x : Nat} {w : World} (hx : x < 18446744073709551616) (hc : ∀ i, i < 3 → w.cell? ⟨b, off + i, none⟩ = some (.int .i64 (f i))) :
    FV 51 #[.agg #[.string s, .int .i64 2, .int .i64 lo, .int .i64 hi, .slice (some ⟨b, off, none⟩) 3 cap, .float .f64 x], .int .i64 nm] w (opC .add (threeC f (wC nm)) (cl x)) := by
  have hadd := add_run
  have hsub := sub_run
  have hmul := mul_run
  have hquo := quo_run
  have hcv := conv_run
  have hc1 := cell_opW
  unfold FV
  go_enter Tryd.func51, Tryd.ntmps51
  obtain ⟨X, hX⟩ : ∃ X, X = w.alloc (.cells #[.string s, .int .i64 2, .int .i64 lo, .int .i64 hi, .slice (some ⟨b, off, none⟩) 3 cap, .float .f64 x] 28) := ⟨_, rfl⟩
  have HX : Hid (Below w.heap.size w X ∧ Six X w.heap.size (.string s) (.int .i64 2) (.int .i64 lo) (.int .i64 hi) (.slice (some ⟨b, off, none⟩) 3 cap) (.float .f64 x) ∧ (∀ i, i < 3 → X.cell? ⟨b, off + i, none⟩ = some (.int .i64 (f i))) ∧ X.heap.size = w.heap.size + 1) := by
    rw [hX]; exact ⟨(Below.refl _ _).alloc (Nat.le_refl _) _, six_new _ _ _ _ _ _ _ _, fun i hi => alloc_keeps (hc i hi), by simp⟩
  clear hc
  go_wp2_with fail
  rw [← hX]
  clear hX
  obtain ⟨q, hq⟩ : ∃ q, q = opV .mul (opV .quo (fi nm) 4652007308841189376 X) (opV .quo (fi nm) 4652007308841189376 X) (opW .quo (fi nm) 4652007308841189376 X) := ⟨_, rfl⟩
  have hqc : Fc q (wC nm) := by
    have h1 : Fc (opV .quo (fi nm) 4652007308841189376 X) (lC nm) := fc_op _ (fc_own (fi_lt nm)) (fc_own (by omega)) _
    rw [hq]
    exact fc_op _ h1 h1 _
  obtain ⟨Y, hY⟩ : ∃ Y, Y = opW .mul (opV .quo (fi nm) 4652007308841189376 X) (opV .quo (fi nm) 4652007308841189376 X) (opW .quo (fi nm) 4652007308841189376 X) := ⟨_, rfl⟩
  have HY : Hid (Below X.heap.size X Y) := by
    have h1 : Below X.heap.size X Y := by rw [hY]; exact below_opW (below_opW (Below.refl _ _))
    exact h1
  rw [← hq, ← hY]
  clear hq hY
  go_loopw [7, 8] (fun v i wr => ∃ j : Nat, j ≤ 3 ∧ i = .int .i64 j ∧ Parts X X.heap.size wr v j f) (fun _ i _ => 3 - (intOf i).toNat)
  case atStart =>
    have hz : X.heap.size ≤ Y.heap.size := HY.out.size
    refine ⟨0, by omega, rfl, ⟨⟨fun _ => 0, ?_, fun p hp => by omega⟩, by simp, HY.out.alloc hz _⟩⟩
    obtain ⟨e1, h | ⟨g, cp, cur, h1, h2, h3⟩⟩ := owns_empty Y 23 1
    · simp at h
    · exact ⟨e1, Or.inr ⟨g, cp, cur, h1, Nat.le_trans hz h2, h3⟩⟩
  case round =>
    obtain ⟨j, hj, rfl, HP⟩ := hrel
    have HPH : Hid (Parts X X.heap.size wr u7 j f) := HP
    have hS := HX.out.2.1.later HP.below
    clear HP
    obtain ⟨c0, c1, c2, c3, c4, c5⟩ := hS
    clear c0 c2 c3
    by_cases hlt : j < 3
    · clear c1 c5
      have g1 : wr.cell? ⟨b, off + j, none⟩ = some (.int .i64 (f j)) := (HPH.out.below.cell (World.block_lt_of_cell? _ _ (HX.out.2.2.1 j hlt))).trans (HX.out.2.2.1 j hlt)
      obtain ⟨g, hg⟩ := HPH.out.ex
      have HG : Hid (wr.ownsRow X.heap.size 23 1 u7 j ((List.range j).map fun p => .float .f64 (g p)) ∧ (∀ p, p < j → Fc (g p) (kC (f p))) ∧ X.heap.size ≤ (opW .quo (fi (f j)) 4741671816366391296 wr).heap.size) := ⟨hg.1, hg.2, by rw [size_opW]; exact HPH.out.below.size⟩
      clear hg
      go_wp2_with (first | (at_builtin; refine push_law rfl (.tmp 26) (.tmp 34) 96 rfl 23 (.float .f64 0) 1 8 Tryd.underlying96 info23 rfl (by decide) (by decide) _ [_] rfl (by simp [Value.oneCell']) X.heap.size u7 j _ rfl (owns_opW HG.out.1) 1 rfl (by omega) HG.out.2.2 ?_; intro v1 w3 own3 grow3 nn3))
      have HN : Hid (Parts X X.heap.size w3 v1 (j + 1) f) := parts_push (w := wr) (owns_opW HG.out.1) HG.out.2.1 (below_opW HPH.out.below) HG.out.2.2 (fc_op _ (fc_own (fi_lt _)) (fc_own (by omega)) _) own3 grow3 nn3
      clear own3 grow3 nn3 HG HPH c4 g1
      go_wp2
      go_roundw
      case rel => exact ⟨j + 1, by omega, by simp, HN.out⟩
      case measure => simp [intOf]; omega
    · obtain rfl : j = 3 := by omega
      obtain ⟨g, hg⟩ := HPH.out.ex
      obtain ⟨gb, gcap, rfl, hgb, hsg⟩ := owned_seg hg.1 HPH.out.nn
      have k0 : wr.cell? ⟨gb, 0, none⟩ = some (.float .f64 (g 0)) := by simpa [List.range_succ] using hsg.cell (i := 0) (by omega)
      have kc0 : Fc (g 0) (kC (f 0)) := hg.2 0 (by omega)
      have k1 : wr.cell? ⟨gb, 1, none⟩ = some (.float .f64 (g 1)) := by simpa [List.range_succ] using hsg.cell (i := 1) (by omega)
      have kc1 : Fc (g 1) (kC (f 1)) := hg.2 1 (by omega)
      have k2 : wr.cell? ⟨gb, 2, none⟩ = some (.float .f64 (g 2)) := by simpa [List.range_succ] using hsg.cell (i := 2) (by omega)
      have kc2 : Fc (g 2) (kC (f 2)) := hg.2 2 (by omega)
      have HB : Hid (Below w.heap.size w wr) := HX.out.1.trans (HPH.out.below.mono HX.out.1.size)
      clear hg hsg hgb HPH
      go_wp2
      go_ret
      refine ⟨_, rfl, ?_, ?_⟩
      · unfold threeC
        have hxc := fc_own hx
        repeat' (first | with_reducible assumption | (refine fc_op _ ?_ ?_ _))
      · repeat (first | with_reducible exact HB.out | refine below_opW ?_)
end Go.Proofs.YtndfncjoknibaaaDoor
