/- Rows that are built one behind the other by append; spec.l14Column and spec.UnwrapMap. -/
import Derived.Test.YtbagaicbochmnaaUm
import Derived.Test.YtbagaicbochmnaaRz
import Derived.Test.YtbagaicbochmnaaMp
namespace Go.Proofs.Ytbagaicbochmnaa
open Go.RowKit
set_option linter.unusedVariables false
/-- Rows built one behind the other from w0 on, of wd numbers each; nothing of what was there is touched. -/
structure Up (w0 w : World) (i wd : Nat) (F : Rm.Mx) (v : Value) (vs : Nat → Value) : Prop where
  own : w.ownsRow w0.heap.size 34 1 v i ((List.range i).map vs)
  rows : ∀ r, r < i → ∃ g cap, vs r = .slice (some ⟨g, 0, none⟩) wd cap ∧ w0.heap.size ≤ g ∧ wd ≤ cap ∧ Seg w g 2 0 wd (fun c => .int .i64 (F r c))
  below : Below w0.heap.size w0 w
theorem up_start (w0 : World) (wd : Nat) (F : Rm.Mx) (vs : Nat → Value) : Up w0 (w0.alloc (.cells #[] 34)) 0 wd F (.slice (some ⟨w0.heap.size, 0, none⟩) 0 0) vs :=
  ⟨owns_empty w0 34, fun r hr => absurd hr (Nat.not_lt_zero _), (Below.refl _ _).alloc (Nat.le_refl _) _⟩
theorem up_step {w0 w wx w1 : World} {i wd : Nat} {F : Rm.Mx} {v v1 : Value} {vs : Nat → Value} {g cp : Nat} (h : Up w0 w i wd F v vs) (hb : Below w.heap.size w wx)
    (hg : w.heap.size ≤ g) (hcp : wd ≤ cp) (hs : Seg wx g 2 0 wd (fun c => .int .i64 (F i c)))
    (hown : w1.ownsRow w0.heap.size 34 1 v1 (i + 1) ((List.range i).map vs ++ [.slice (some ⟨g, 0, none⟩) wd cp])) (hgr : (wx.alloc (.cells #[.slice (some ⟨g, 0, none⟩) wd cp] 34)).grownBy w1 v.ownBlock) :
    Up w0 w1 (i + 1) wd F v1 (fun r => if r = i then .slice (some ⟨g, 0, none⟩) wd cp else vs r) := by
  have hO := owns_later h.own hb
  have z1 := h.below.size
  have z2 := hb.size
  have hB : Below w0.heap.size w w1 := push_below hO hgr (hb.mono (by omega)) (by omega)
  have old : ∀ (b : Nat) (f : Nat → Value), Seg wx b 2 0 wd f → Seg w1 b 2 0 wd f := fun b f hf => (hf.alloc _).grown hgr (owns_ne hO hf (by decide))
  refine ⟨?_, fun r hr => ?_, h.below.trans hB⟩
  · rw [← range_push]
    have e : (List.range i).map (fun r => if r = i then Value.slice (some ⟨g, 0, none⟩) wd cp else vs r) = (List.range i).map vs := List.map_congr_left fun r hr => by
      have := List.mem_range.1 hr
      rw [if_neg (by omega)]
    rw [e]
    simpa using hown
  · by_cases e : r = i
    · subst e
      exact ⟨g, cp, by simp, by omega, hcp, old g _ hs⟩
    · obtain ⟨g', cp', e1, e2, e3, e4⟩ := h.rows r (by omega)
      exact ⟨g', cp', by simp [e, e1], e2, e3, old g' _ (e4.of_block (hb.block _ e4.lt))⟩
theorem up_rd {w0 w : World} {n wd : Nat} {F : Rm.Mx} {v : Value} {vs : Nat → Value} (h : Up w0 w n wd F v vs) : RdMat w v n (fun _ => wd) F := by
  by_cases hn : 0 < n
  · obtain ⟨g, cap, rfl, _, hs⟩ := owned_seg h.own hn
    refine Or.inr ⟨g, 0, cap, vs, rfl, fun i hi => ⟨hs.cell hi, ?_⟩⟩
    obtain ⟨g', cp', e1, _, _, e4⟩ := h.rows i hi
    rw [e1]
    exact e4.rd
  · obtain rfl : n = 0 := by omega
    obtain ⟨_, ⟨rfl, _⟩ | ⟨g, cap, cur, rfl, _⟩⟩ := h.own
    · exact Or.inl ⟨_, _, rfl, rfl⟩
    · exact Or.inl ⟨_, _, rfl, rfl⟩
set_option maxHeartbeats 1600000 in
theorem sCol_any {lo hi : Nat} {w : World} {l : Lie} {n m : Nat} {F : Rm.Mx} (h : Mat lo hi w l n (fun _ => m) F) (j : Nat) (hj : j < m) (hn0 : 0 < n) (hn : n ≤ 1000) (hm : m ≤ 1000) :
    Calls Try.prog 77 #[.slice (some ⟨l.b, 0, none⟩) n l.cap, .int .i64 (j : Int)] w fun e w' => ∃ g c, e = .returned (.slice (some ⟨g, 0, none⟩) n c) ∧ w.heap.size ≤ g ∧ Seg w' g 2 0 n (fun i => .int .i64 (F i j)) ∧ Below w.heap.size w w' := by
  have HM : Hid (Mat lo hi w l n (fun _ => m) F) := h
  clear h
  go_enter Try.func77, Try.ntmps77
  go_wp2_with fail
  go_loopw [5, 6] (fun v i wx => ∃ k : Nat, k ≤ n ∧ i = .int .i64 k ∧ Hid (wx.ownsRow w.heap.size 2 1 v k ((List.range k).map fun r => .int .i64 (F r j)) ∧ Below w.heap.size w wx)) (fun _ i _ => n - (intOf i).toNat)
  case atStart => exact ⟨0, Nat.zero_le _, rfl, owns_empty w 2, (Below.refl _ _).alloc (Nat.le_refl _) _⟩
  case round =>
    obtain ⟨k, hk, rfl, HW⟩ := hrel
    have hws := HW.out.2.size
    by_cases hkn : k < n
    · have g0 : wr.cell? ⟨l.b, k, none⟩ = some (.slice (some ⟨l.bs k, l.os k, none⟩) m (l.cs k)) := by
        have := HM.out.cellRow hkn
        exact (HW.out.2.cell (World.block_lt_of_cell? _ _ this)).trans this
      have g1 : wr.cell? ⟨l.bs k, l.os k + j, none⟩ = some (.int .i64 (F k j)) := by
        have := HM.out.cellAt hkn hj
        exact (HW.out.2.cell (World.block_lt_of_cell? _ _ this)).trans this
      go_wp2_with (first | (at_builtin; refine push_law rfl (.tmp 14) (.tmp 22) 34 rfl 2 (.int .i64 0) 8 Try.underlying34 info2 rfl (by decide) wr _ rfl w.heap.size u5 k _ rfl HW.out.1 1 rfl (by omega) hws ?_; intro v1 w1 hown1 hgrow1))
      have HN : Hid (w1.ownsRow w.heap.size 2 1 v1 (k + 1) ((List.range (k + 1)).map fun r => .int .i64 (F r j)) ∧ Below w.heap.size w w1) := by
        rw [← range_push]
        exact ⟨hown1, push_below HW.out.1 hgrow1 HW.out.2 hws⟩
      clear hown1 hgrow1
      go_wp2
      exact ⟨⟨k + 1, by omega, by simp, HN⟩, by simp [intOf]; omega⟩
    · obtain rfl : k = n := by omega
      obtain ⟨g, cg, hv, hgb, hcg, hs⟩ := owned_seg2 HW.out.1 hn0
      subst hv
      have HS : Hid (w.heap.size ≤ g ∧ Seg wr g 2 0 k (fun i => .int .i64 (F i j)) ∧ Below w.heap.size w wr) := ⟨hgb, hs, HW.out.2⟩
      clear hgb hcg hs HW
      go_wp2
      go_ret
      exact ⟨g, cg, rfl, HS.out⟩
end Go.Proofs.Ytbagaicbochmnaa
