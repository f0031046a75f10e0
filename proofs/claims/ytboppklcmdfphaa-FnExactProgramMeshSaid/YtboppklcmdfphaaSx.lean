/- SwapGuides of the specification: contract. -/
import Derived.Test.YtboppklcmdfphaaSw
namespace Go.Proofs.Ytboppklcmdfphaa
open Go.RowKit
set_option linter.unusedVariables false
set_option linter.unusedSimpArgs false
theorem swnp_le (s i j : Int) : swnp s i j ≤ 24 := by
  unfold swnp
  split
  · rename_i h
    unfold swok at h
    simp only [Bool.and_eq_true, decide_eq_true_eq] at h
    omega
  · omega
theorem swnc_le (s i j : Int) : swnc s i j ≤ 1 := by unfold swnc; split <;> omega
theorem own_form {w : World} {base n : Nat} {t : TypeId} {m : Nat} {v : Value} {xs : List Value} (h : w.ownsRow base t m v n xs) : ∃ ao cp, v = .slice ao n cp := by
  obtain ⟨_, ⟨rfl, h2⟩ | ⟨g, cap, cur, rfl, _⟩⟩ := h
  · exact ⟨none, 0, by rw [h2]⟩
  · exact ⟨_, cap, rfl⟩
/-- So many numbers 1, as values. -/
def ilo (n : Nat) : List Value := (List.range n).map (fun _ => .int .i64 1)
theorem ilo_push (k : Nat) : ilo k ++ [.int .i64 1] = ilo (k + 1) := range_push _ k
set_option maxRecDepth 20000 in
set_option maxHeartbeats 3200000 in
theorem sSw_any (s i j : Int) (w : World) : Calls Try.prog 50 #[.int .i64 s, .int .i64 i, .int .i64 j] w fun e w' => ∃ v0 v1, e = .returned (.agg #[.int .i64 (swc s i j), .int .i64 (swsd s i j), v0, v1]) ∧ MeO w.heap.size w'.heap.size w' v0 v1 (swnp s i j) (fun _ => 1) (swnc s i j) (fun _ => Rm.swapC i j) ∧ Below w.heap.size w w' := by
  cases h : swok s i j with
  | false => exact sSw_bad s i j w h
  | true =>
    have e1 : swc s i j = 0 := by simp [swc, h]
    have e2 : swsd s i j = s := by simp [swsd, h]
    have e3 : swnp s i j = s.toNat := by simp [swnp, h]
    have hw : 1 ≤ s ∧ s ≤ 24 ∧ Rm.isG i s = true ∧ Rm.isG j s = true := by
      unfold swok at h
      simp only [Bool.and_eq_true, decide_eq_true_eq] at h
      exact ⟨h.1.1.1, h.1.1.2, h.1.2, h.2⟩
    obtain ⟨h1, h2, h3, h4⟩ := hw
    obtain ⟨n, hn⟩ : ∃ n : Nat, (n : Int) = s := ⟨s.toNat, by omega⟩
    have e4 : swnc s i j = if i = j then 0 else 1 := by
      unfold swnc
      by_cases q : i = j
      · simp [q]
      · simp [h, q]
    rw [e1, e2, e3, e4, show s.toNat = n by omega]
    clear e1 e2 e3 e4 h
    rw [← hn] at h3 h4 ⊢
    have hn0 : 0 < n := by omega
    have hn24 : n ≤ 24 := by omega
    clear h1 h2 hn
    unfold Rm.isG at h3 h4
    simp only [Bool.and_eq_true, decide_eq_true_eq] at h3 h4
    obtain ⟨p1, p2⟩ := h3
    obtain ⟨p3, p4⟩ := h4
    by_cases hij : i = j
    · have hne : (i != j) = false := by simp [hij]
      rw [if_pos hij]
      clear hij
      go_enter Try.func50, Try.ntmps50
      go_wp2_with fail
      go_loopw [8] (fun t wr => ∃ (k : Nat) (v : Value), k ≤ n ∧ t = .int .i64 k ∧ Hid (wr.ownsRow (w.heap.size + 1 + 1) 2 1 v k (ilo k) ∧ Blk wr (w.heap.size + 1) #[.int .i64 (n : Int), v, .slice none 0 0] 49 ∧ Blk wr w.heap.size #[.int .i64 0, .int .i64 0, .slice none 0 0, .slice none 0 0] 61 ∧ Below w.heap.size w wr)) (fun t _ => n - (intOf t).toNat)
      case atStart => exact ⟨0, .slice none 0 0, Nat.zero_le _, rfl, ⟨rfl, Or.inl ⟨rfl, rfl⟩⟩, Blk.new (by simp), (Blk.new rfl).alloc _, ((Below.refl _ _).alloc (Nat.le_refl _) _).alloc (by simp) _⟩
      case round =>
        obtain ⟨k, v, hk, rfl, HS⟩ := hrel
        obtain ⟨va, vc, rfl⟩ := own_form HS.out.1
        have b0 := HS.out.2.1.cell (j := 0) rfl
        have b1 := HS.out.2.1.cell (j := 1) rfl
        have b2 := HS.out.2.1.cell (j := 2) rfl
        have bf := HS.out.2.1.frozen
        have r0 := HS.out.2.2.1.cell (j := 0) rfl
        have r1 := HS.out.2.2.1.cell (j := 1) rfl
        have r2 := HS.out.2.2.1.cell (j := 2) rfl
        have r3 := HS.out.2.2.1.cell (j := 3) rfl
        have rf := HS.out.2.2.1.frozen
        have bl := HS.out.2.1.lt
        have rl := HS.out.2.2.1.lt
        by_cases hkn : k < n
        · go_wp2_with (first | (at_builtin; refine push_law rfl (.tmp 42) (.tmp 43) 32 rfl 2 (.int .i64 0) 8 Try.underlying32 info2 rfl (by decide) wr _ rfl (w.heap.size + 1 + 1) (.slice va k vc) k _ rfl HS.out.1 1 rfl (by omega) (by omega) ?_; intro v1 w3 hown hgr; obtain ⟨v1a, v1c, hv1⟩ := own_form hown; subst hv1; have hB3 : Below (w.heap.size + 1 + 1) wr w3 := push_below HS.out.1 hgr (Below.refl _ _) (by omega); have hBx : Blk w3 (w.heap.size + 1) #[.int .i64 (n : Int), .slice va k vc, .slice none 0 0] 49 := (hB3.block _ (by omega)).trans HS.out.2.1; have c1 := hBx.cell (j := 1) rfl; have cf := hBx.frozen))
          have HN : Hid ((w3.setCell ⟨w.heap.size + 1, 1, none⟩ (.slice v1a (k + 1) v1c)).ownsRow (w.heap.size + 1 + 1) 2 1 (.slice v1a (k + 1) v1c) (k + 1) (ilo (k + 1)) ∧ Blk (w3.setCell ⟨w.heap.size + 1, 1, none⟩ (.slice v1a (k + 1) v1c)) (w.heap.size + 1) #[.int .i64 (n : Int), .slice v1a (k + 1) v1c, .slice none 0 0] 49 ∧ Blk (w3.setCell ⟨w.heap.size + 1, 1, none⟩ (.slice v1a (k + 1) v1c)) w.heap.size #[.int .i64 0, .int .i64 0, .slice none 0 0, .slice none 0 0] 61 ∧ Below w.heap.size w (w3.setCell ⟨w.heap.size + 1, 1, none⟩ (.slice v1a (k + 1) v1c))) := by
            refine ⟨?_, hBx.set 1 _ rfl, Blk.setOther ((hB3.block _ (by omega)).trans HS.out.2.2.1) (by simp) _, (HS.out.2.2.2.trans (hB3.mono (by omega))).setCell (by simp) _⟩
            rw [← ilo_push]
            obtain ⟨hl, ⟨_, h2⟩ | ⟨g, cap, cur, hv, hg, hh, rest⟩⟩ := hown
            · omega
            · exact ⟨hl, Or.inr ⟨g, cap, cur, hv, hg, (Below.heap_setCell _ _ _ _ (by show g ≠ w.heap.size + 1; omega)).trans hh, rest⟩⟩
          clear HS hown hgr hB3 hBx
          go_wp2
          exact ⟨⟨k + 1, _, by omega, by simp, HN⟩, by simp [intOf]; omega⟩
        · obtain rfl : k = n := by omega
          obtain ⟨g, cap, hv, hgl, hseg⟩ := owned_seg HS.out.1 hn0
          simp only [Value.slice.injEq] at hv
          obtain ⟨rfl, _, rfl⟩ := hv
          have HG : Hid (Seg wr g 2 0 k (fun _ => .int .i64 1) ∧ w.heap.size + 1 + 1 ≤ g) := ⟨hseg, hgl⟩
          have hgw : g < wr.heap.size := hseg.lt
          clear hseg hgl
          go_wp2
          have hg := HG.out.2
          refine bodyPost_ret (res_of (cs := #[.int .i64 0, .int .i64 (k : Int), .slice (some ⟨g, 0, none⟩) k vc, .slice none 0 0]) Try.results50 rfl ((((HS.out.2.2.1.set 0 _ rfl).set 1 _ rfl).set 2 _ rfl).set 3 _ rfl) Try.underlying61 (by kernel_rfl)) rfl ⟨_, _, rfl, ?_, ?_⟩
          · refine ⟨Or.inr ⟨g, vc, rfl, by omega, by simp; omega, ?_⟩, Or.inl ⟨_, _, rfl, rfl⟩⟩
            exact (((HG.out.1.setOther (by simp; omega) _).setOther (by simp; omega) _).setOther (by simp; omega) _).setOther (by simp; omega) _
          · exact (((HS.out.2.2.2.setCell (by simp) _).setCell (by simp) _).setCell (by simp) _).setCell (by simp) _
    · have hne : (i != j) = true := by simp [hij]
      rw [if_neg hij]
      clear hij
      go_enter Try.func50, Try.ntmps50
      go_wp2_with fail
      go_loopw [8] (fun t wr => ∃ (k : Nat) (v : Value), k ≤ n ∧ t = .int .i64 k ∧ Hid (wr.ownsRow (w.heap.size + 1 + 1) 2 1 v k (ilo k) ∧ Blk wr (w.heap.size + 1) #[.int .i64 (n : Int), v, .slice none 0 0] 49 ∧ Blk wr w.heap.size #[.int .i64 0, .int .i64 0, .slice none 0 0, .slice none 0 0] 61 ∧ Below w.heap.size w wr)) (fun t _ => n - (intOf t).toNat)
      case atStart => exact ⟨0, .slice none 0 0, Nat.zero_le _, rfl, ⟨rfl, Or.inl ⟨rfl, rfl⟩⟩, Blk.new (by simp), (Blk.new rfl).alloc _, ((Below.refl _ _).alloc (Nat.le_refl _) _).alloc (by simp) _⟩
      case round =>
        obtain ⟨k, v, hk, rfl, HS⟩ := hrel
        obtain ⟨va, vc, rfl⟩ := own_form HS.out.1
        have b0 := HS.out.2.1.cell (j := 0) rfl
        have b1 := HS.out.2.1.cell (j := 1) rfl
        have b2 := HS.out.2.1.cell (j := 2) rfl
        have bf := HS.out.2.1.frozen
        have r0 := HS.out.2.2.1.cell (j := 0) rfl
        have r1 := HS.out.2.2.1.cell (j := 1) rfl
        have r2 := HS.out.2.2.1.cell (j := 2) rfl
        have r3 := HS.out.2.2.1.cell (j := 3) rfl
        have rf := HS.out.2.2.1.frozen
        have bl := HS.out.2.1.lt
        have rl := HS.out.2.2.1.lt
        by_cases hkn : k < n
        · go_wp2_with (first | (at_builtin; refine push_law rfl (.tmp 42) (.tmp 43) 32 rfl 2 (.int .i64 0) 8 Try.underlying32 info2 rfl (by decide) wr _ rfl (w.heap.size + 1 + 1) (.slice va k vc) k _ rfl HS.out.1 1 rfl (by omega) (by omega) ?_; intro v1 w3 hown hgr; obtain ⟨v1a, v1c, hv1⟩ := own_form hown; subst hv1; have hB3 : Below (w.heap.size + 1 + 1) wr w3 := push_below HS.out.1 hgr (Below.refl _ _) (by omega); have hBx : Blk w3 (w.heap.size + 1) #[.int .i64 (n : Int), .slice va k vc, .slice none 0 0] 49 := (hB3.block _ (by omega)).trans HS.out.2.1; have c1 := hBx.cell (j := 1) rfl; have cf := hBx.frozen))
          have HN : Hid ((w3.setCell ⟨w.heap.size + 1, 1, none⟩ (.slice v1a (k + 1) v1c)).ownsRow (w.heap.size + 1 + 1) 2 1 (.slice v1a (k + 1) v1c) (k + 1) (ilo (k + 1)) ∧ Blk (w3.setCell ⟨w.heap.size + 1, 1, none⟩ (.slice v1a (k + 1) v1c)) (w.heap.size + 1) #[.int .i64 (n : Int), .slice v1a (k + 1) v1c, .slice none 0 0] 49 ∧ Blk (w3.setCell ⟨w.heap.size + 1, 1, none⟩ (.slice v1a (k + 1) v1c)) w.heap.size #[.int .i64 0, .int .i64 0, .slice none 0 0, .slice none 0 0] 61 ∧ Below w.heap.size w (w3.setCell ⟨w.heap.size + 1, 1, none⟩ (.slice v1a (k + 1) v1c))) := by
            refine ⟨?_, hBx.set 1 _ rfl, Blk.setOther ((hB3.block _ (by omega)).trans HS.out.2.2.1) (by simp) _, (HS.out.2.2.2.trans (hB3.mono (by omega))).setCell (by simp) _⟩
            rw [← ilo_push]
            obtain ⟨hl, ⟨_, h2⟩ | ⟨g, cap, cur, hv, hg, hh, rest⟩⟩ := hown
            · omega
            · exact ⟨hl, Or.inr ⟨g, cap, cur, hv, hg, (Below.heap_setCell _ _ _ _ (by show g ≠ w.heap.size + 1; omega)).trans hh, rest⟩⟩
          clear HS hown hgr hB3 hBx
          go_wp2
          exact ⟨⟨k + 1, _, by omega, by simp, HN⟩, by simp [intOf]; omega⟩
        · obtain rfl : k = n := by omega
          obtain ⟨g, cap, hv, hgl, hseg⟩ := owned_seg HS.out.1 hn0
          simp only [Value.slice.injEq] at hv
          obtain ⟨rfl, _, rfl⟩ := hv
          have HG : Hid (Seg wr g 2 0 k (fun _ => .int .i64 1) ∧ w.heap.size + 1 + 1 ≤ g) := ⟨hseg, hgl⟩
          have hgw : g < wr.heap.size := hseg.lt
          clear hseg hgl
          go_wp2
          have hg := HG.out.2
          refine bodyPost_ret (res_of (cs := #[.int .i64 0, .int .i64 (k : Int), .slice (some ⟨g, 0, none⟩) k vc, .slice (some ⟨wr.heap.size, 0, none⟩) 1 1]) Try.results50 rfl ((((((HS.out.2.2.1.setOther (by simp) _).set 0 _ rfl).set 1 _ rfl).set 2 _ rfl).set 3 _ rfl).alloc _) Try.underlying61 (by kernel_rfl)) rfl ⟨_, _, rfl, ?_, ?_⟩
          · refine ⟨Or.inr ⟨g, vc, rfl, by omega, by simp; omega, ?_⟩, Or.inr ⟨wr.heap.size, 1, rfl, by omega, by simp, one_cell (Blk.new (by simp))⟩⟩
            exact (((((HG.out.1.setOther (by simp; omega) _).setOther (by simp; omega) _).setOther (by simp; omega) _).setOther (by simp; omega) _).setOther (by simp; omega) _).alloc _
          · have h1 := HS.out.2.2.2
            repeat (first | exact h1 | (refine Below.setCell ?_ (by simp <;> omega) _) | (refine Below.alloc ?_ (by simp <;> omega) _))
end Go.Proofs.Ytboppklcmdfphaa
