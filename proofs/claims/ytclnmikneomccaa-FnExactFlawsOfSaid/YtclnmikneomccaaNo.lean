/- NetsOf, in both packages: contracts. -/
import Derived.Test.YtclnmikneomccaaSn
namespace Go.Proofs.Ytclnmikneomccaa
open Go.RowKit Go.Maps
set_option linter.unusedVariables false
set_option linter.unusedSimpArgs false
theorem fints_congr {f g : Nat → Int} {d : Nat} (h : ∀ a, a < d → f a = g a) : fints f d = fints g d := by
  unfold fints
  apply List.map_congr_left
  intro a ha
  exact h a (List.mem_range.1 ha)
/-- Whatever the nets' numbers are, they are X. -/
def IsNets (S : Nat → R.G) (n : Nat) (X : Nat → Int) : Prop := ∀ Y, Nw.Nets (fun a b => jn (S a) (S b)) n Y → ∀ a, a < n → Y a = X a
theorem isNets_some (S : Nat → R.G) (n : Nat) : ∃ X, IsNets S n X := by
  by_cases h : ∃ Y, Nw.Nets (fun a b => jn (S a) (S b)) n Y
  · obtain ⟨Y0, h0⟩ := h
    exact ⟨Y0, fun Y hY => hY.uniq h0⟩
  · exact ⟨fun _ => 0, fun Y hY => absurd ⟨Y, hY⟩ h⟩
set_option maxRecDepth 20000 in
set_option maxHeartbeats 6400000 in
theorem sNets_any {w : World} {ao : Option Addr} {n cap : Nat} {S : Nat → R.G} {X : Nat → Int} (hX : IsNets S n X) (h : R.Rsp w (.slice ao n cap) n S) (hn : n ≤ 1048576) (hcap : n ≤ cap) :
    Calls Try.prog 17 #[.slice ao n cap] w fun e w' => ∃ v, e = .returned (.agg #[.int .i64 (rcode S n), v]) ∧ OwnI w.heap.size w'.heap.size w' (rcode S n) v (fints X n) ∧ Below w.heap.size w w' := by
  have HX : Hid (IsNets S n X) := hX
  have HA : ∀ W, Below w.heap.size w W → Hid (R.Rsp W (.slice ao n cap) n S) := fun W hb => h.later hb
  have HN : Hid (n ≤ 1048576 ∧ n ≤ cap) := ⟨hn, hcap⟩
  clear h hX hn hcap
  go_enter Try.func17, Try.ntmps17
  go_wp2_with fail
  obtain ⟨w1, hw1⟩ : ∃ W, W = w.alloc (.cells #[.int .i64 0, .slice none 0 0] 31) := ⟨_, rfl⟩
  obtain ⟨p2, h2⟩ : ∃ p, p = w.heap.size := ⟨_, rfl⟩
  have H1 : Hid (Blk w1 p2 #[.int .i64 0, .slice none 0 0] 31 ∧ Below w.heap.size w w1 ∧ w.heap.size ≤ p2) := by rw [hw1]; exact ⟨Blk.new h2, box_stay (Below.refl _ _) _, by omega⟩
  rw [← hw1, ← h2]
  clear hw1 h2
  refine (sRects_any (HA _ H1.out.2.1).out HN.out.1).mono ?_
  rintro e w2 ⟨rfl, hb2⟩
  obtain ⟨c, hc⟩ : ∃ c, c = rcode S n := ⟨_, rfl⟩
  rw [← hc]
  have HC : Hid (c = rcode S n) := hc
  have H2 : Hid (Blk w2 p2 #[.int .i64 0, .slice none 0 0] 31 ∧ Below w.heap.size w w2) := ⟨H1.out.1.old hb2, H1.out.2.1.trans (hb2.mono H1.out.2.1.size)⟩
  clear hc hb2
  by_cases hz : c = 0
  · have hzb : (c != 0) = false := by simpa using hz
    have HK := rcode_ok (S := S) (n := n) (by rw [← HC.out]; exact hz)
    have HK2 : Hid _ := HK
    subst hz
    clear HK
    go_wp2_with fail
    refine (sNum_any (HA _ H2.out.2).out HK2.out.2 HK2.out.1).mono ?_
    rintro e w3 ⟨v, Y, rfl, ho, hN, hb3⟩
    have hol : OwnI w2.heap.size w3.heap.size w3 0 v (fints X n) := by
      rw [← fints_congr (HX.out Y hN)]
      exact ho
    obtain ⟨va, vk, vc, ev⟩ := hol.rd.shape
    subst ev
    have H3 : Hid (Blk w3 p2 #[.int .i64 0, .slice none 0 0] 31 ∧ Below w.heap.size w w3 ∧ OwnI w2.heap.size w3.heap.size w3 0 (.slice va vk vc) (fints X n)) := ⟨H2.out.1.old hb3, H2.out.2.trans (hb3.mono H2.out.2.size), hol⟩
    clear ho hN hb3 hol
    have e0 := H3.out.1.cell (j := 0) rfl
    have e1 := H3.out.1.cell (j := 1) rfl
    have ef : ∀ j, w3.frozen? ⟨p2, j, none⟩ = false := fun j => H3.out.1.frozen j
    obtain ⟨w4, hw4⟩ : ∃ W, W = (w3.setCell ⟨p2, 0, none⟩ (.int .i64 0)).setCell ⟨p2, 1, none⟩ (.slice va vk vc) := ⟨_, rfl⟩
    have H4 : Hid (Blk w4 p2 #[.int .i64 0, .slice va vk vc] 31 ∧ Below w.heap.size w w4 ∧ OwnI w.heap.size w4.heap.size w4 0 (.slice va vk vc) (fints X n) ∧ w4 = (w3.setCell ⟨p2, 0, none⟩ (.int .i64 0)).setCell ⟨p2, 1, none⟩ (.slice va vk vc)) := by
      refine ⟨by rw [hw4]; exact (H3.out.1.set 0 _ rfl).set 1 _ rfl, by rw [hw4]; exact (H3.out.2.1.setCell H1.out.2.2 _).setCell H1.out.2.2 _, ?_, hw4⟩
      have hz4 : w4.heap.size = w3.heap.size := by rw [hw4]; simp
      rw [hz4]
      rcases H3.out.2.2 with ⟨q, _⟩ | ⟨q, q2 | ⟨g, cp, q2, q3, q4, q5⟩⟩
      · exact absurd rfl q
      · exact Or.inr ⟨rfl, Or.inl q2⟩
      · refine Or.inr ⟨rfl, Or.inr ⟨g, cp, q2, Nat.le_trans H2.out.2.size q3, q4, q5.of_block ?_⟩⟩
        have hpg : g ≠ p2 := by have := H2.out.1.lt; omega
        rw [hw4, Below.heap_setCell _ _ _ _ (by simpa using hpg), Below.heap_setCell _ _ _ _ (by simpa using hpg)]
    clear hw4
    go_wp2_with fail
    rw [← H4.out.2.2.2]
    have s0 := H4.out.1.cell (j := 0) rfl
    have s1 := H4.out.1.cell (j := 1) rfl
    refine bodyPost_ret (v := .agg #[.int .i64 0, .slice va vk vc]) (by simp [results, Try.results17, go_sem, s0, s1]) rfl (by rw [← HC.out]; exact ⟨_, rfl, H4.out.2.2.1, H4.out.2.1⟩)
  · have hzb : (c != 0) = true := by simpa using hz
    have HZ : Hid (c ≠ 0) := hz
    clear hz
    have e0 := H2.out.1.cell (j := 0) rfl
    have e1 := H2.out.1.cell (j := 1) rfl
    have ef : ∀ j, w2.frozen? ⟨p2, j, none⟩ = false := fun j => H2.out.1.frozen j
    obtain ⟨w4, hw4⟩ : ∃ W, W = (w2.setCell ⟨p2, 0, none⟩ (.int .i64 c)).setCell ⟨p2, 1, none⟩ (.slice none 0 0) := ⟨_, rfl⟩
    have H4 : Hid (Blk w4 p2 #[.int .i64 c, .slice none 0 0] 31 ∧ Below w.heap.size w w4 ∧ w4 = (w2.setCell ⟨p2, 0, none⟩ (.int .i64 c)).setCell ⟨p2, 1, none⟩ (.slice none 0 0)) := ⟨by rw [hw4]; exact (H2.out.1.set 0 _ rfl).set 1 _ rfl, by rw [hw4]; exact (H2.out.2.setCell H1.out.2.2 _).setCell H1.out.2.2 _, hw4⟩
    clear hw4
    go_wp2_with fail
    rw [← H4.out.2.2]
    have s0 := H4.out.1.cell (j := 0) rfl
    have s1 := H4.out.1.cell (j := 1) rfl
    refine bodyPost_ret (v := .agg #[.int .i64 c, .slice none 0 0]) (by simp [results, Try.results17, go_sem, s0, s1]) rfl (by rw [← HC.out]; exact ⟨_, rfl, Or.inl ⟨HZ.out, rfl⟩, H4.out.2.1⟩)
set_option maxRecDepth 20000 in
set_option maxHeartbeats 6400000 in
theorem iNets_any {w : World} {ao : Option Addr} {n cap : Nat} {S : Nat → R.G} {X : Nat → Int} (hX : IsNets S n X) (h : R.Rsp w (.slice ao n cap) n S) (hn : n ≤ 1048576) (hcap : n ≤ cap) :
    Calls Try.prog 18 #[.slice ao n cap] w fun e w' => ∃ v, e = .returned (.agg #[.int .i64 (rcode S n), v]) ∧ OwnI w.heap.size w'.heap.size w' (rcode S n) v (fints X n) ∧ Below w.heap.size w w' := by
  have HX : Hid (IsNets S n X) := hX
  have HA : ∀ W, Below w.heap.size w W → Hid (R.Rsp W (.slice ao n cap) n S) := fun W hb => h.later hb
  have HN : Hid (n ≤ 1048576 ∧ n ≤ cap) := ⟨hn, hcap⟩
  clear h hX hn hcap
  go_enter Try.func18, Try.ntmps18
  go_wp2_with fail
  obtain ⟨w1, hw1⟩ : ∃ W, W = w.alloc (.cells #[.int .i64 0, .slice none 0 0] 31) := ⟨_, rfl⟩
  obtain ⟨p2, h2⟩ : ∃ p, p = w.heap.size := ⟨_, rfl⟩
  have H1 : Hid (Blk w1 p2 #[.int .i64 0, .slice none 0 0] 31 ∧ Below w.heap.size w w1 ∧ w.heap.size ≤ p2) := by rw [hw1]; exact ⟨Blk.new h2, box_stay (Below.refl _ _) _, by omega⟩
  rw [← hw1, ← h2]
  clear hw1 h2
  refine (iRects_any (HA _ H1.out.2.1).out HN.out.1).mono ?_
  rintro e w2 ⟨rfl, hb2⟩
  obtain ⟨c, hc⟩ : ∃ c, c = rcode S n := ⟨_, rfl⟩
  rw [← hc]
  have HC : Hid (c = rcode S n) := hc
  have H2 : Hid (Blk w2 p2 #[.int .i64 0, .slice none 0 0] 31 ∧ Below w.heap.size w w2) := ⟨H1.out.1.old hb2, H1.out.2.1.trans (hb2.mono H1.out.2.1.size)⟩
  clear hc hb2
  by_cases hz : c = 0
  · have hzb : (c != 0) = false := by simpa using hz
    have HK := rcode_ok (S := S) (n := n) (by rw [← HC.out]; exact hz)
    have HK2 : Hid _ := HK
    subst hz
    clear HK
    go_wp2_with fail
    refine (netNum_any (HA _ H2.out.2).out HK2.out.2 HK2.out.1 HN.out.2).mono ?_
    rintro e w3 ⟨v, Y, rfl, ho, hN, hb3⟩
    have hol : OwnI w2.heap.size w3.heap.size w3 0 v (fints X n) := by
      rw [← fints_congr (HX.out Y hN)]
      exact OwnI.of ho (Nat.le_refl _)
    obtain ⟨va, vk, vc, ev⟩ := hol.rd.shape
    subst ev
    have H3 : Hid (Blk w3 p2 #[.int .i64 0, .slice none 0 0] 31 ∧ Below w.heap.size w w3 ∧ OwnI w2.heap.size w3.heap.size w3 0 (.slice va vk vc) (fints X n)) := ⟨H2.out.1.old hb3, H2.out.2.trans (hb3.mono H2.out.2.size), hol⟩
    clear ho hN hb3 hol
    have e0 := H3.out.1.cell (j := 0) rfl
    have e1 := H3.out.1.cell (j := 1) rfl
    have ef : ∀ j, w3.frozen? ⟨p2, j, none⟩ = false := fun j => H3.out.1.frozen j
    obtain ⟨w4, hw4⟩ : ∃ W, W = (w3.setCell ⟨p2, 0, none⟩ (.int .i64 0)).setCell ⟨p2, 1, none⟩ (.slice va vk vc) := ⟨_, rfl⟩
    have H4 : Hid (Blk w4 p2 #[.int .i64 0, .slice va vk vc] 31 ∧ Below w.heap.size w w4 ∧ OwnI w.heap.size w4.heap.size w4 0 (.slice va vk vc) (fints X n) ∧ w4 = (w3.setCell ⟨p2, 0, none⟩ (.int .i64 0)).setCell ⟨p2, 1, none⟩ (.slice va vk vc)) := by
      refine ⟨by rw [hw4]; exact (H3.out.1.set 0 _ rfl).set 1 _ rfl, by rw [hw4]; exact (H3.out.2.1.setCell H1.out.2.2 _).setCell H1.out.2.2 _, ?_, hw4⟩
      have hz4 : w4.heap.size = w3.heap.size := by rw [hw4]; simp
      rw [hz4]
      rcases H3.out.2.2 with ⟨q, _⟩ | ⟨q, q2 | ⟨g, cp, q2, q3, q4, q5⟩⟩
      · exact absurd rfl q
      · exact Or.inr ⟨rfl, Or.inl q2⟩
      · refine Or.inr ⟨rfl, Or.inr ⟨g, cp, q2, Nat.le_trans H2.out.2.size q3, q4, q5.of_block ?_⟩⟩
        have hpg : g ≠ p2 := by have := H2.out.1.lt; omega
        rw [hw4, Below.heap_setCell _ _ _ _ (by simpa using hpg), Below.heap_setCell _ _ _ _ (by simpa using hpg)]
    clear hw4
    go_wp2_with fail
    rw [← H4.out.2.2.2]
    have s0 := H4.out.1.cell (j := 0) rfl
    have s1 := H4.out.1.cell (j := 1) rfl
    refine bodyPost_ret (v := .agg #[.int .i64 0, .slice va vk vc]) (by simp [results, Try.results18, go_sem, s0, s1]) rfl (by rw [← HC.out]; exact ⟨_, rfl, H4.out.2.2.1, H4.out.2.1⟩)
  · have hzb : (c != 0) = true := by simpa using hz
    have HZ : Hid (c ≠ 0) := hz
    clear hz
    have e0 := H2.out.1.cell (j := 0) rfl
    have e1 := H2.out.1.cell (j := 1) rfl
    have ef : ∀ j, w2.frozen? ⟨p2, j, none⟩ = false := fun j => H2.out.1.frozen j
    obtain ⟨w4, hw4⟩ : ∃ W, W = (w2.setCell ⟨p2, 0, none⟩ (.int .i64 c)).setCell ⟨p2, 1, none⟩ (.slice none 0 0) := ⟨_, rfl⟩
    have H4 : Hid (Blk w4 p2 #[.int .i64 c, .slice none 0 0] 31 ∧ Below w.heap.size w w4 ∧ w4 = (w2.setCell ⟨p2, 0, none⟩ (.int .i64 c)).setCell ⟨p2, 1, none⟩ (.slice none 0 0)) := ⟨by rw [hw4]; exact (H2.out.1.set 0 _ rfl).set 1 _ rfl, by rw [hw4]; exact (H2.out.2.setCell H1.out.2.2 _).setCell H1.out.2.2 _, hw4⟩
    clear hw4
    go_wp2_with fail
    rw [← H4.out.2.2]
    have s0 := H4.out.1.cell (j := 0) rfl
    have s1 := H4.out.1.cell (j := 1) rfl
    refine bodyPost_ret (v := .agg #[.int .i64 c, .slice none 0 0]) (by simp [results, Try.results18, go_sem, s0, s1]) rfl (by rw [← HC.out]; exact ⟨_, rfl, Or.inl ⟨HZ.out, rfl⟩, H4.out.2.1⟩)
end Go.Proofs.Ytclnmikneomccaa
