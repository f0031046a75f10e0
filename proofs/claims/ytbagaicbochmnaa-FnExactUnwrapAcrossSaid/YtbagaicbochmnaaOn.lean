/- spec.l14On and spec.UnwrapRow. -/
import Derived.Test.YtbagaicbochmnaaAp
namespace Go.Proofs.Ytbagaicbochmnaa
open Go.RowKit
set_option linter.unusedVariables false
theorem goOn_succ {x : Int} {f : Nat → Int} {j k : Nat} (h : k = j + 1) : IntKind.i64.wrap (goOn x f j + wst (f j) (f k)) = goOn x f k := by
  subst h
  rw [IntKind.wrap_i64]
  show _ = wrap64 (goOn x f j + wst (f j) (f (j + 1)))
  unfold wrap64
  omega
set_option maxHeartbeats 2000000 in
theorem sOn_any (x : Int) (b off n cap : Nat) (f : Nat → Int) (w : World) (h0 : 0 < n) (hn : n ≤ 1100000) (hc : ∀ i, i < n → w.cell? ⟨b, off + i, none⟩ = some (.int .i64 (f i))) :
    Calls Try.prog 75 #[.int .i64 x, .slice (some ⟨b, off, none⟩) n cap] w fun e w' => ∃ g c, e = .returned (.slice (some ⟨g, 0, none⟩) n c) ∧ w.heap.size ≤ g ∧ n ≤ c ∧ Seg w' g 2 0 n (fun i => .int .i64 (goOn x f i)) ∧ Below w.heap.size w w' := by
  have HC : Hid (∀ i, i < n → w.cell? ⟨b, off + i, none⟩ = some (.int .i64 (f i))) := hc
  clear hc
  go_enter Try.func75, Try.ntmps75
  go_wp2_with fail
  go_loopw [5, 6] (fun v i wx => ∃ k : Nat, 1 ≤ k ∧ k ≤ n ∧ i = .int .i64 k ∧ Hid (wx.ownsRow w.heap.size 2 1 v k ((List.range k).map fun j => .int .i64 (goOn x f j)) ∧ Below w.heap.size w wx)) (fun _ i _ => n - (intOf i).toNat)
  case atStart => exact ⟨1, Nat.le_refl _, by omega, rfl, owns_one w 2 _, (Below.refl _ _).alloc (Nat.le_refl _) _⟩
  case round =>
    obtain ⟨k, hk1, hk, rfl, HW⟩ := hrel
    by_cases hkn : k < n
    · obtain ⟨g, cg, hv, hgb, hcg, hs⟩ := owned_seg2 HW.out.1 hk1
      subst hv
      obtain ⟨j, hj⟩ : ∃ j, k = j + 1 := ⟨k - 1, by omega⟩
      have hw1 : IntKind.i64.wrap ((k : Int) - 1) = (j : Int) := by rw [IntKind.wrap_i64]; omega
      have g0 : wr.cell? ⟨g, j, none⟩ = some (.int .i64 (goOn x f j)) := by simpa using hs.cell (show j < k by omega)
      have g1 : wr.cell? ⟨b, off + j, none⟩ = some (.int .i64 (f j)) := (HW.out.2.cell (World.block_lt_of_cell? _ _ (HC.out j (by omega)))).trans (HC.out j (by omega))
      have g2 : wr.cell? ⟨b, off + k, none⟩ = some (.int .i64 (f k)) := (HW.out.2.cell (World.block_lt_of_cell? _ _ (HC.out k hkn))).trans (HC.out k hkn)
      have hws := HW.out.2.size
      have HJ : Hid (k = j + 1) := hj
      have hjk : j < k := by omega
      have hjn : j < n := by omega
      have HL : Hid (IntKind.i64.wrap (goOn x f j + wst (f j) (f k)) = goOn x f k) := goOn_succ hj
      clear hj hs
      go_wp2_with fail
      go_region_law (first | (go_simp; go_at_call 79; refine (sStep_any _ _ _).mono ?_; rintro e w5 ⟨rfl, rfl⟩) | (refine step_push rfl (.tmp 15) (.tmp 32) 34 rfl 2 (.int .i64 0) 8 Try.underlying34 info2 rfl (by decide) wr.drew (.int .i64 (IntKind.i64.wrap (goOn x f j + wst (f j) (f k)))) rfl rfl w.heap.size (.slice (some ⟨g, 0, none⟩) k cg) k ((List.range k).map fun j => .int .i64 (goOn x f j)) (by simp [Act.eval]) (by exact HW.out.1) 1 (by simp [Act.eval]) (by omega) hws ?_; intro v1 w1 hown1 hgrow1))
      all_goals
        have HN : Hid (w1.ownsRow w.heap.size 2 1 v1 (k + 1) ((List.range (k + 1)).map fun j => .int .i64 (goOn x f j)) ∧ Below w.heap.size w w1) := by
          rw [← range_push]
          rw [HL.out] at hown1
          exact ⟨hown1, push_below (w := wr.drew) (by exact HW.out.1) hgrow1 HW.out.2.drew hws⟩
        clear hown1 hgrow1
        go_wp2
        exact ⟨⟨k + 1, by omega, by omega, by simp, HN⟩, by simp [intOf]; omega⟩
    · obtain rfl : k = n := by omega
      obtain ⟨g, cg, hv, hgb, hcg, hs⟩ := owned_seg2 HW.out.1 hk1
      subst hv
      have HS : Hid (w.heap.size ≤ g ∧ k ≤ cg ∧ Seg wr g 2 0 k (fun i => .int .i64 (goOn x f i)) ∧ Below w.heap.size w wr) := ⟨hgb, hcg, hs, HW.out.2⟩
      clear hgb hcg hs HW
      go_wp2
      go_ret
      exact ⟨g, cg, rfl, HS.out⟩
/-- A row of n numbers f that is owned, from block lo on. -/
def OwnRow (lo hi : Nat) (w : World) (v : Value) (n : Nat) (f : Nat → Int) : Prop := (n = 0 ∧ ∃ ao cap, v = .slice ao 0 cap ∧ (∀ a, ao = some a → lo ≤ a.block ∧ a.block < hi)) ∨ ∃ g cap, v = .slice (some ⟨g, 0, none⟩) n cap ∧ lo ≤ g ∧ g < hi ∧ n ≤ cap ∧ Seg w g 2 0 n (fun i => .int .i64 (f i))
theorem OwnRow.rd {lo hi : Nat} {w : World} {v : Value} {n : Nat} {f : Nat → Int} (h : OwnRow lo hi w v n f) : RdRow w v n f := by
  rcases h with ⟨rfl, ao, cap, rfl, _⟩ | ⟨g, cap, rfl, _, _, _, hs⟩
  · exact Or.inl ⟨_, _, rfl, rfl⟩
  · exact hs.rd
set_option maxHeartbeats 2000000 in
theorem sUnw_any {v : Value} {n : Nat} {f : Nat → Int} {w : World} (h : RdRow w v n f) (hn : n ≤ 1100000) :
    Calls Try.prog 39 #[v] w fun e w' => ∃ u, e = .returned u ∧ OwnRow w.heap.size w'.heap.size w' u n (unw f) ∧ Below w.heap.size w w' := by
  rcases h with ⟨ao, cap, rfl, rfl⟩ | ⟨b, off, cap, rfl, hc⟩
  · go_enter Try.func39, Try.ntmps39
    go_wp2
    go_ret
    exact ⟨_, rfl, Or.inl ⟨rfl, none, 0, rfl, fun a h => by cases h⟩, Below.refl _ _⟩
  · by_cases hz : n = 0
    · subst hz
      go_enter Try.func39, Try.ntmps39
      go_wp2
      go_ret
      exact ⟨_, rfl, Or.inl ⟨rfl, none, 0, rfl, fun a h => by cases h⟩, Below.refl _ _⟩
    · have hz0 : ((n : Int) == 0) = false := by rw [beq_eq_false_iff_ne]; omega
      have g0 := hc 0 (by omega)
      rw [Nat.add_zero] at g0
      have HC : Hid (∀ i, i < n → w.cell? ⟨b, off + i, none⟩ = some (.int .i64 (f i))) := hc
      clear hc
      go_enter Try.func39, Try.ntmps39
      go_wp2_with fail
      refine (sWrap_any _ _).mono ?_
      rintro e w1 ⟨rfl, rfl⟩
      go_wp2_with fail
      refine (sOn_any _ _ _ _ _ f _ (by omega) hn HC.out).mono ?_
      rintro e w1 ⟨g, c, rfl, h1, h2, h3, h4⟩
      have HS : Hid (w.heap.size ≤ g ∧ n ≤ c ∧ Seg w1 g 2 0 n (fun i => .int .i64 (goOn (wph (f 0)) f i)) ∧ Below w.heap.size w w1) := ⟨h1, h2, h3, h4⟩
      clear h1 h2 h3 h4
      go_wp2
      go_ret
      exact ⟨_, rfl, Or.inr ⟨g, c, rfl, HS.out.1, HS.out.2.2.1.lt, HS.out.2.1, HS.out.2.2.1⟩, HS.out.2.2.2⟩
end Go.Proofs.Ytbagaicbochmnaa
