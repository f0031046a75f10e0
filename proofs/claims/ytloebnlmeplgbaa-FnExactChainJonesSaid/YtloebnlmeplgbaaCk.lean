/- Chains of plates: the specification, and both packages over any list. -/
import Derived.Test.YtloebnlmeplgbaaCj
import Derived.Test.YtloebnlmeplgbaaLa
import Derived.Handy
namespace Go.Proofs.Ytloebnlmeplgbaa
open Go.RowKit
set_option linter.unusedVariables false
set_option linter.unusedSimpArgs false
set_option maxRecDepth 20000 in
set_option maxHeartbeats 3200000 in
theorem sch_some (b off n cap : Nat) (G : Nat → Pl) (w : World) (hn : n ≤ 100) (hc : ∀ i, i < n → ∀ j, j < 8 → w.cell? ⟨b, off + i * 8 + j, none⟩ = some (plc (G i) j)) : Calls Try.prog 39 #[.slice (some ⟨b, off, none⟩) n cap] w fun e w' => e = .returned (.agg #[.int .i64 (chC G n), .int .i64 ((chP G n).a.re), .int .i64 ((chP G n).a.im), .int .i64 ((chP G n).b.re), .int .i64 ((chP G n).b.im), .int .i64 ((chP G n).c.re), .int .i64 ((chP G n).c.im), .int .i64 ((chP G n).d.re), .int .i64 ((chP G n).d.im)]) ∧ Below w.heap.size w w' := by
  have C0 : Hid (okc G n = false → chC G n = 3 ∧ chP G n = zpl) := fun h => by simp [chC, chP, h, Nat.not_lt.2 hn]
  have C1 : Hid (okc G n = true → chC G n = 0 ∧ chP G n = ch G n) := fun h => by simp [chC, chP, h, Nat.not_lt.2 hn]
  have later : ∀ (wr : World) (p : Addr) {v : Value}, w.cell? p = some v → Below w.heap.size w wr → wr.cell? p = some v := fun wr p v h hb => (hb.cell (World.block_lt_of_cell? _ _ h)).trans h
  have hn9 : ¬ (100 < (n : Int)) := by omega
  go_enter Try.func39, Try.ntmps39
  have HO : Hid (Below w.heap.size w w) := Below.refl _ _
  go_upto_region 4 with fail
  obtain ⟨v1, hv⟩ : ∃ Xw, Xw = ((w.alloc (.cells #[.int .i64 0, .int .i64 0, .int .i64 0, .int .i64 0, .int .i64 0, .int .i64 0, .int .i64 0, .int .i64 0, .int .i64 0] 66)).alloc (.cells #[.int .i64 1, .int .i64 0, .int .i64 0, .int .i64 0, .int .i64 0, .int .i64 0, .int .i64 1, .int .i64 0] 27)) := ⟨_, rfl⟩
  rw [← hv]
  have ne_r_m : Hid (w.heap.size ≠ w.heap.size + 1) := by show (w.heap.size : Nat) ≠ w.heap.size + 1; omega
  have B_r : Hid (Blk v1 (w.heap.size) #[.int .i64 0, .int .i64 0, .int .i64 0, .int .i64 0, .int .i64 0, .int .i64 0, .int .i64 0, .int .i64 0, .int .i64 0] 66) := by show Blk v1 (w.heap.size) _ _; rw [hv]; exact (Blk.alloc (Blk.new (by simp)) _)
  have low_r : Hid (w.heap.size ≤ w.heap.size) := by show w.heap.size ≤ w.heap.size; have := HO.out.size; omega
  have B_m : Hid (Blk v1 (w.heap.size + 1) #[.int .i64 1, .int .i64 0, .int .i64 0, .int .i64 0, .int .i64 0, .int .i64 0, .int .i64 1, .int .i64 0] 27) := by show Blk v1 (w.heap.size + 1) _ _; rw [hv]; exact (Blk.new (by simp))
  have low_m : Hid (w.heap.size ≤ w.heap.size + 1) := by show w.heap.size ≤ w.heap.size + 1; have := HO.out.size; omega
  replace HO : Hid (Below w.heap.size w v1) := by show Below w.heap.size w v1; rw [hv]; exact (below_new (below_new HO.out _) _)
  clear hv
  go_wp2_with fail
  go_loopw [4] (fun i wr => ∃ k : Nat, k ≤ n ∧ i = .int .i64 k ∧ okp G k = true ∧ Blk wr (w.heap.size) #[.int .i64 0, .int .i64 0, .int .i64 0, .int .i64 0, .int .i64 0, .int .i64 0, .int .i64 0, .int .i64 0, .int .i64 0] 66 ∧ Blk wr (w.heap.size + 1) #[.int .i64 ((ch G 0).a.re), .int .i64 ((ch G 0).a.im), .int .i64 ((ch G 0).b.re), .int .i64 ((ch G 0).b.im), .int .i64 ((ch G 0).c.re), .int .i64 ((ch G 0).c.im), .int .i64 ((ch G 0).d.re), .int .i64 ((ch G 0).d.im)] 27 ∧ Below w.heap.size w wr) (fun i _ => n - (intOf i).toNat)
  case atStart => exact ⟨0, Nat.zero_le _, rfl, rfl, B_r.out, B_m.out, HO.out⟩
  case round =>
    clear B_r B_m HO
    obtain ⟨k, hk, rfl, hok, br, bm, ho⟩ := hrel
    have HK : Hid (okp G k = true) := hok
    clear hok
    by_cases hkn : k < n
    · skip
      have B_r : Hid (Blk wr (w.heap.size) #[.int .i64 0, .int .i64 0, .int .i64 0, .int .i64 0, .int .i64 0, .int .i64 0, .int .i64 0, .int .i64 0, .int .i64 0] 66) := br
      have B_m : Hid (Blk wr (w.heap.size + 1) #[.int .i64 ((ch G 0).a.re), .int .i64 ((ch G 0).a.im), .int .i64 ((ch G 0).b.re), .int .i64 ((ch G 0).b.im), .int .i64 ((ch G 0).c.re), .int .i64 ((ch G 0).c.im), .int .i64 ((ch G 0).d.re), .int .i64 ((ch G 0).d.im)] 27) := bm
      have HO : Hid (Below w.heap.size w wr) := ho
      have g0 : wr.cell? ⟨b, off + k * 8, none⟩ = some (.int .i64 ((G k).a.re)) := later _ _ (hc k hkn 0 (by omega)) ho
      have g1 : wr.cell? ⟨b, off + k * 8 + 1, none⟩ = some (.int .i64 ((G k).a.im)) := later _ _ (hc k hkn 1 (by omega)) ho
      have g2 : wr.cell? ⟨b, off + k * 8 + 2, none⟩ = some (.int .i64 ((G k).b.re)) := later _ _ (hc k hkn 2 (by omega)) ho
      have g3 : wr.cell? ⟨b, off + k * 8 + 3, none⟩ = some (.int .i64 ((G k).b.im)) := later _ _ (hc k hkn 3 (by omega)) ho
      have g4 : wr.cell? ⟨b, off + k * 8 + 4, none⟩ = some (.int .i64 ((G k).c.re)) := later _ _ (hc k hkn 4 (by omega)) ho
      have g5 : wr.cell? ⟨b, off + k * 8 + 5, none⟩ = some (.int .i64 ((G k).c.im)) := later _ _ (hc k hkn 5 (by omega)) ho
      have g6 : wr.cell? ⟨b, off + k * 8 + 6, none⟩ = some (.int .i64 ((G k).d.re)) := later _ _ (hc k hkn 6 (by omega)) ho
      have g7 : wr.cell? ⟨b, off + k * 8 + 7, none⟩ = some (.int .i64 ((G k).d.im)) := later _ _ (hc k hkn 7 (by omega)) ho
      clear br bm ho hc later
      go_wp2_with fail
      refine (splate (G k).a (G k).b (G k).c (G k).d _).mono ?_
      rintro e v2 ⟨rfl, hb⟩
      replace B_r : Hid (Blk v2 (w.heap.size) #[.int .i64 0, .int .i64 0, .int .i64 0, .int .i64 0, .int .i64 0, .int .i64 0, .int .i64 0, .int .i64 0, .int .i64 0] 66) := by show Blk v2 (w.heap.size) _ _; exact Blk.old B_r.out hb
      replace B_m : Hid (Blk v2 (w.heap.size + 1) #[.int .i64 ((ch G 0).a.re), .int .i64 ((ch G 0).a.im), .int .i64 ((ch G 0).b.re), .int .i64 ((ch G 0).b.im), .int .i64 ((ch G 0).c.re), .int .i64 ((ch G 0).c.im), .int .i64 ((ch G 0).d.re), .int .i64 ((ch G 0).d.im)] 27) := by show Blk v2 (w.heap.size + 1) _ _; exact Blk.old B_m.out hb
      replace HO : Hid (Below w.heap.size w v2) := box_step HO.out hb (Nat.le_refl _)
      clear hb
      clear g0 g1 g2 g3 g4 g5 g6 g7
      rcases plF_or (G k) with hp | hp
      · skip
        rw [show pcode (G k).a (G k).b (G k).c (G k).d = 0 from hp]
        go_wp2
        go_roundw
        case rel => exact ⟨k + 1, by omega, by simp, by simp only [okp, HK.out, hp, decide_true, Bool.and_self], B_r.out, B_m.out, HO.out⟩
        case measure => simp [intOf]; omega
      · skip
        rw [show pcode (G k).a (G k).b (G k).c (G k).d = 3 from hp]
        have hf := C0.out (okc_up (k := k + 1) hkn (by simp only [okc, hp]; simp))
        have r_0 := B_r.out.cell (j := 0) rfl
        have r_1 := B_r.out.cell (j := 1) rfl
        have r_2 := B_r.out.cell (j := 2) rfl
        have r_3 := B_r.out.cell (j := 3) rfl
        have r_4 := B_r.out.cell (j := 4) rfl
        have r_5 := B_r.out.cell (j := 5) rfl
        have r_6 := B_r.out.cell (j := 6) rfl
        have r_7 := B_r.out.cell (j := 7) rfl
        have r_8 := B_r.out.cell (j := 8) rfl
        have r_f := B_r.out.frozen
        have r_z := B_r.out.lt
        go_wp2
        refine bodyPost_ret (v := .agg #[.int .i64 3, .int .i64 0, .int .i64 0, .int .i64 0, .int .i64 0, .int .i64 0, .int .i64 0, .int .i64 0, .int .i64 0]) (by simp [results, Try.results39, go_sem, r_0, r_1, r_2, r_3, r_4, r_5, r_6, r_7, r_8, r_f, r_z] <;> (repeat' (first | rfl | apply And.intro))) rfl ⟨by rw [hf.1, hf.2]; rfl, ?_⟩
        exact (Below.setCell (Below.setCell (Below.setCell (Below.setCell (Below.setCell (Below.setCell (Below.setCell (Below.setCell (Below.setCell HO.out low_r.out _) low_r.out _) low_r.out _) low_r.out _) low_r.out _) low_r.out _) low_r.out _) low_r.out _) low_r.out _)
    · obtain rfl : k = n := by omega
      obtain ⟨w0, hw0⟩ : ∃ W, W = wr := ⟨_, rfl⟩
      subst hw0
      go_wp2_with fail
      go_loopw [5] (fun i wr => ∃ q : Nat, q ≤ k ∧ i = .int .i64 q ∧ okc G q = true ∧ Blk wr (w.heap.size) #[.int .i64 0, .int .i64 0, .int .i64 0, .int .i64 0, .int .i64 0, .int .i64 0, .int .i64 0, .int .i64 0, .int .i64 0] 66 ∧ Blk wr (w.heap.size + 1) #[.int .i64 ((ch G q).a.re), .int .i64 ((ch G q).a.im), .int .i64 ((ch G q).b.re), .int .i64 ((ch G q).b.im), .int .i64 ((ch G q).c.re), .int .i64 ((ch G q).c.im), .int .i64 ((ch G q).d.re), .int .i64 ((ch G q).d.im)] 27 ∧ Below w.heap.size w wr) (fun i _ => k - (intOf i).toNat)
      case atStart => exact ⟨0, Nat.zero_le _, rfl, rfl, br, bm, ho⟩
      case round =>
        clear br bm ho
        obtain ⟨q, hq0, rfl, hok, br, bm, ho⟩ := hrel
        have HC : Hid (okc G q = true) := hok
        clear hok
        by_cases hkn : q < k
        · skip
          have B_r : Hid (Blk wr (w.heap.size) #[.int .i64 0, .int .i64 0, .int .i64 0, .int .i64 0, .int .i64 0, .int .i64 0, .int .i64 0, .int .i64 0, .int .i64 0] 66) := br
          have B_m : Hid (Blk wr (w.heap.size + 1) #[.int .i64 ((ch G q).a.re), .int .i64 ((ch G q).a.im), .int .i64 ((ch G q).b.re), .int .i64 ((ch G q).b.im), .int .i64 ((ch G q).c.re), .int .i64 ((ch G q).c.im), .int .i64 ((ch G q).d.re), .int .i64 ((ch G q).d.im)] 27) := bm
          have HO : Hid (Below w.heap.size w wr) := ho
          have g0 : wr.cell? ⟨b, off + q * 8, none⟩ = some (.int .i64 ((G q).a.re)) := later _ _ (hc q hkn 0 (by omega)) ho
          have g1 : wr.cell? ⟨b, off + q * 8 + 1, none⟩ = some (.int .i64 ((G q).a.im)) := later _ _ (hc q hkn 1 (by omega)) ho
          have g2 : wr.cell? ⟨b, off + q * 8 + 2, none⟩ = some (.int .i64 ((G q).b.re)) := later _ _ (hc q hkn 2 (by omega)) ho
          have g3 : wr.cell? ⟨b, off + q * 8 + 3, none⟩ = some (.int .i64 ((G q).b.im)) := later _ _ (hc q hkn 3 (by omega)) ho
          have g4 : wr.cell? ⟨b, off + q * 8 + 4, none⟩ = some (.int .i64 ((G q).c.re)) := later _ _ (hc q hkn 4 (by omega)) ho
          have g5 : wr.cell? ⟨b, off + q * 8 + 5, none⟩ = some (.int .i64 ((G q).c.im)) := later _ _ (hc q hkn 5 (by omega)) ho
          have g6 : wr.cell? ⟨b, off + q * 8 + 6, none⟩ = some (.int .i64 ((G q).d.re)) := later _ _ (hc q hkn 6 (by omega)) ho
          have g7 : wr.cell? ⟨b, off + q * 8 + 7, none⟩ = some (.int .i64 ((G q).d.im)) := later _ _ (hc q hkn 7 (by omega)) ho
          have hp : Hid (plF (G q) = 0) := okp_at k q hkn HK.out
          clear br bm ho hc later
          go_upto_region 13 with fail
          clear g0 g1 g2 g3 g4 g5 g6 g7
          obtain ⟨v2, hv⟩ : ∃ Xw, Xw = (wr.alloc (.cells #[.int .i64 ((G q).a.re), .int .i64 ((G q).a.im), .int .i64 ((G q).b.re), .int .i64 ((G q).b.im), .int .i64 ((G q).c.re), .int .i64 ((G q).c.im), .int .i64 ((G q).d.re), .int .i64 ((G q).d.im)] 27)) := ⟨_, rfl⟩
          rw [← hv]
          have ne_r_e : Hid (w.heap.size ≠ wr.heap.size) := Nat.ne_of_lt (Nat.lt_of_lt_of_le B_r.out.lt (by omega))
          have ne_m_e : Hid (w.heap.size + 1 ≠ wr.heap.size) := Nat.ne_of_lt (Nat.lt_of_lt_of_le B_m.out.lt (by omega))
          have B_e : Hid (Blk v2 (wr.heap.size) #[.int .i64 ((G q).a.re), .int .i64 ((G q).a.im), .int .i64 ((G q).b.re), .int .i64 ((G q).b.im), .int .i64 ((G q).c.re), .int .i64 ((G q).c.im), .int .i64 ((G q).d.re), .int .i64 ((G q).d.im)] 27) := by show Blk v2 (wr.heap.size) _ _; rw [hv]; exact (Blk.new (by simp))
          have low_e : Hid (w.heap.size ≤ wr.heap.size) := by show w.heap.size ≤ wr.heap.size; have := HO.out.size; omega
          replace B_r : Hid (Blk v2 (w.heap.size) #[.int .i64 0, .int .i64 0, .int .i64 0, .int .i64 0, .int .i64 0, .int .i64 0, .int .i64 0, .int .i64 0, .int .i64 0] 66) := by show Blk v2 (w.heap.size) _ _; rw [hv]; exact (Blk.alloc B_r.out _)
          replace B_m : Hid (Blk v2 (w.heap.size + 1) #[.int .i64 ((ch G q).a.re), .int .i64 ((ch G q).a.im), .int .i64 ((ch G q).b.re), .int .i64 ((ch G q).b.im), .int .i64 ((ch G q).c.re), .int .i64 ((ch G q).c.im), .int .i64 ((ch G q).d.re), .int .i64 ((ch G q).d.im)] 27) := by show Blk v2 (w.heap.size + 1) _ _; rw [hv]; exact (Blk.alloc B_m.out _)
          replace HO : Hid (Below w.heap.size w v2) := by show Below w.heap.size w v2; rw [hv]; exact (below_new HO.out _)
          clear hv
          have k_e_0 : ∀ x : Kept v2.heap.size v2, x.w.cell? ⟨wr.heap.size, 0, none⟩ = some (.int .i64 ((G q).a.re)) := fun x => x.cell B_e.out.lt (B_e.out.cell (j := 0) rfl)
          have k_e_1 : ∀ x : Kept v2.heap.size v2, x.w.cell? ⟨wr.heap.size, 1, none⟩ = some (.int .i64 ((G q).a.im)) := fun x => x.cell B_e.out.lt (B_e.out.cell (j := 1) rfl)
          have k_e_2 : ∀ x : Kept v2.heap.size v2, x.w.cell? ⟨wr.heap.size, 2, none⟩ = some (.int .i64 ((G q).b.re)) := fun x => x.cell B_e.out.lt (B_e.out.cell (j := 2) rfl)
          have k_e_3 : ∀ x : Kept v2.heap.size v2, x.w.cell? ⟨wr.heap.size, 3, none⟩ = some (.int .i64 ((G q).b.im)) := fun x => x.cell B_e.out.lt (B_e.out.cell (j := 3) rfl)
          have k_e_4 : ∀ x : Kept v2.heap.size v2, x.w.cell? ⟨wr.heap.size, 4, none⟩ = some (.int .i64 ((G q).c.re)) := fun x => x.cell B_e.out.lt (B_e.out.cell (j := 4) rfl)
          have k_e_5 : ∀ x : Kept v2.heap.size v2, x.w.cell? ⟨wr.heap.size, 5, none⟩ = some (.int .i64 ((G q).c.im)) := fun x => x.cell B_e.out.lt (B_e.out.cell (j := 5) rfl)
          have k_e_6 : ∀ x : Kept v2.heap.size v2, x.w.cell? ⟨wr.heap.size, 6, none⟩ = some (.int .i64 ((G q).d.re)) := fun x => x.cell B_e.out.lt (B_e.out.cell (j := 6) rfl)
          have k_e_7 : ∀ x : Kept v2.heap.size v2, x.w.cell? ⟨wr.heap.size, 7, none⟩ = some (.int .i64 ((G q).d.im)) := fun x => x.cell B_e.out.lt (B_e.out.cell (j := 7) rfl)
          have k_m_0 : ∀ x : Kept v2.heap.size v2, x.w.cell? ⟨w.heap.size + 1, 0, none⟩ = some (.int .i64 ((ch G q).a.re)) := fun x => x.cell B_m.out.lt (B_m.out.cell (j := 0) rfl)
          have k_m_1 : ∀ x : Kept v2.heap.size v2, x.w.cell? ⟨w.heap.size + 1, 1, none⟩ = some (.int .i64 ((ch G q).a.im)) := fun x => x.cell B_m.out.lt (B_m.out.cell (j := 1) rfl)
          have k_m_2 : ∀ x : Kept v2.heap.size v2, x.w.cell? ⟨w.heap.size + 1, 2, none⟩ = some (.int .i64 ((ch G q).b.re)) := fun x => x.cell B_m.out.lt (B_m.out.cell (j := 2) rfl)
          have k_m_3 : ∀ x : Kept v2.heap.size v2, x.w.cell? ⟨w.heap.size + 1, 3, none⟩ = some (.int .i64 ((ch G q).b.im)) := fun x => x.cell B_m.out.lt (B_m.out.cell (j := 3) rfl)
          have k_m_4 : ∀ x : Kept v2.heap.size v2, x.w.cell? ⟨w.heap.size + 1, 4, none⟩ = some (.int .i64 ((ch G q).c.re)) := fun x => x.cell B_m.out.lt (B_m.out.cell (j := 4) rfl)
          have k_m_5 : ∀ x : Kept v2.heap.size v2, x.w.cell? ⟨w.heap.size + 1, 5, none⟩ = some (.int .i64 ((ch G q).c.im)) := fun x => x.cell B_m.out.lt (B_m.out.cell (j := 5) rfl)
          have k_m_6 : ∀ x : Kept v2.heap.size v2, x.w.cell? ⟨w.heap.size + 1, 6, none⟩ = some (.int .i64 ((ch G q).d.re)) := fun x => x.cell B_m.out.lt (B_m.out.cell (j := 6) rfl)
          have k_m_7 : ∀ x : Kept v2.heap.size v2, x.w.cell? ⟨w.heap.size + 1, 7, none⟩ = some (.int .i64 ((ch G q).d.im)) := fun x => x.cell B_m.out.lt (B_m.out.cell (j := 7) rfl)
          refine wp_region_last' v2.heap.size (by kernel_rfl) rfl rfl (by kernel_rfl) (lastOk_of (by kernel_rfl)) ?_
          intro hne
          dsimp only [List.dropLast]
          repeat (go_big_quiet_step (first | (go_at_call 64; exact Calls.kept_of (Nat.le_refl _) (stwo _ _ _ _ _))))
          refine wpQuiet_nil ?_
          rintro u3 ⟨xk, hxk⟩
          have hR1 := xk.h
          rw [← hxk] at hR1
          clear hxk xk hne k_e_0 k_e_1 k_e_2 k_e_3 k_e_4 k_e_5 k_e_6 k_e_7 k_m_0 k_m_1 k_m_2 k_m_3 k_m_4 k_m_5 k_m_6 k_m_7
          replace B_r : Hid (Blk u3 (w.heap.size) #[.int .i64 0, .int .i64 0, .int .i64 0, .int .i64 0, .int .i64 0, .int .i64 0, .int .i64 0, .int .i64 0, .int .i64 0] 66) := by show Blk u3 (w.heap.size) _ _; exact Blk.old B_r.out hR1
          replace B_m : Hid (Blk u3 (w.heap.size + 1) #[.int .i64 ((ch G q).a.re), .int .i64 ((ch G q).a.im), .int .i64 ((ch G q).b.re), .int .i64 ((ch G q).b.im), .int .i64 ((ch G q).c.re), .int .i64 ((ch G q).c.im), .int .i64 ((ch G q).d.re), .int .i64 ((ch G q).d.im)] 27) := by show Blk u3 (w.heap.size + 1) _ _; exact Blk.old B_m.out hR1
          replace B_e : Hid (Blk u3 (wr.heap.size) #[.int .i64 ((G q).a.re), .int .i64 ((G q).a.im), .int .i64 ((G q).b.re), .int .i64 ((G q).b.im), .int .i64 ((G q).c.re), .int .i64 ((G q).c.im), .int .i64 ((G q).d.re), .int .i64 ((G q).d.im)] 27) := by show Blk u3 (wr.heap.size) _ _; exact Blk.old B_e.out hR1
          replace HO : Hid (Below w.heap.size w u3) := HO.out.trans (hR1.mono HO.out.size)
          clear hR1
          have m_f := B_m.out.frozen
          have mc0 := B_m.out.cell (j := 0) rfl
          have mc1 := B_m.out.cell (j := 1) rfl
          have mc2 := B_m.out.cell (j := 2) rfl
          have mc3 := B_m.out.cell (j := 3) rfl
          have mc4 := B_m.out.cell (j := 4) rfl
          have mc5 := B_m.out.cell (j := 5) rfl
          have mc6 := B_m.out.cell (j := 6) rfl
          have mc7 := B_m.out.cell (j := 7) rfl
          go_upto_region 14 with fail
          clear m_f mc0 mc1 mc2 mc3 mc4 mc5 mc6 mc7
          obtain ⟨v4, hv⟩ : ∃ Xw, Xw = ((((((((u3.setCell ⟨w.heap.size + 1, 0, none⟩ (.int .i64 ((two (G q).a (ch G q).a (G q).b (ch G q).c).re))).setCell ⟨w.heap.size + 1, 1, none⟩ (.int .i64 ((two (G q).a (ch G q).a (G q).b (ch G q).c).im))).setCell ⟨w.heap.size + 1, 2, none⟩ (.int .i64 ((two (G q).a (ch G q).b (G q).b (ch G q).d).re))).setCell ⟨w.heap.size + 1, 3, none⟩ (.int .i64 ((two (G q).a (ch G q).b (G q).b (ch G q).d).im))).setCell ⟨w.heap.size + 1, 4, none⟩ (.int .i64 ((two (G q).c (ch G q).a (G q).d (ch G q).c).re))).setCell ⟨w.heap.size + 1, 5, none⟩ (.int .i64 ((two (G q).c (ch G q).a (G q).d (ch G q).c).im))).setCell ⟨w.heap.size + 1, 6, none⟩ (.int .i64 ((two (G q).c (ch G q).b (G q).d (ch G q).d).re))).setCell ⟨w.heap.size + 1, 7, none⟩ (.int .i64 ((two (G q).c (ch G q).b (G q).d (ch G q).d).im))) := ⟨_, rfl⟩
          rw [← hv]
          replace B_r : Hid (Blk v4 (w.heap.size) #[.int .i64 0, .int .i64 0, .int .i64 0, .int .i64 0, .int .i64 0, .int .i64 0, .int .i64 0, .int .i64 0, .int .i64 0] 66) := by show Blk v4 (w.heap.size) _ _; rw [hv]; exact (Blk.setOther (Blk.setOther (Blk.setOther (Blk.setOther (Blk.setOther (Blk.setOther (Blk.setOther (Blk.setOther B_r.out ne_r_m.out _) ne_r_m.out _) ne_r_m.out _) ne_r_m.out _) ne_r_m.out _) ne_r_m.out _) ne_r_m.out _) ne_r_m.out _)
          replace B_m : Hid (Blk v4 (w.heap.size + 1) #[.int .i64 ((two (G q).a (ch G q).a (G q).b (ch G q).c).re), .int .i64 ((two (G q).a (ch G q).a (G q).b (ch G q).c).im), .int .i64 ((two (G q).a (ch G q).b (G q).b (ch G q).d).re), .int .i64 ((two (G q).a (ch G q).b (G q).b (ch G q).d).im), .int .i64 ((two (G q).c (ch G q).a (G q).d (ch G q).c).re), .int .i64 ((two (G q).c (ch G q).a (G q).d (ch G q).c).im), .int .i64 ((two (G q).c (ch G q).b (G q).d (ch G q).d).re), .int .i64 ((two (G q).c (ch G q).b (G q).d (ch G q).d).im)] 27) := by show Blk v4 (w.heap.size + 1) _ _; rw [hv]; exact (Blk.set (Blk.set (Blk.set (Blk.set (Blk.set (Blk.set (Blk.set (Blk.set B_m.out _ _ rfl) _ _ rfl) _ _ rfl) _ _ rfl) _ _ rfl) _ _ rfl) _ _ rfl) _ _ rfl)
          replace B_e : Hid (Blk v4 (wr.heap.size) #[.int .i64 ((G q).a.re), .int .i64 ((G q).a.im), .int .i64 ((G q).b.re), .int .i64 ((G q).b.im), .int .i64 ((G q).c.re), .int .i64 ((G q).c.im), .int .i64 ((G q).d.re), .int .i64 ((G q).d.im)] 27) := by show Blk v4 (wr.heap.size) _ _; rw [hv]; exact (Blk.setOther (Blk.setOther (Blk.setOther (Blk.setOther (Blk.setOther (Blk.setOther (Blk.setOther (Blk.setOther B_e.out (Ne.symm ne_m_e.out) _) (Ne.symm ne_m_e.out) _) (Ne.symm ne_m_e.out) _) (Ne.symm ne_m_e.out) _) (Ne.symm ne_m_e.out) _) (Ne.symm ne_m_e.out) _) (Ne.symm ne_m_e.out) _) (Ne.symm ne_m_e.out) _)
          replace HO : Hid (Below w.heap.size w v4) := by show Below w.heap.size w v4; rw [hv]; exact (Below.setCell (Below.setCell (Below.setCell (Below.setCell (Below.setCell (Below.setCell (Below.setCell (Below.setCell HO.out low_m.out _) low_m.out _) low_m.out _) low_m.out _) low_m.out _) low_m.out _) low_m.out _) low_m.out _)
          clear hv
          have m_0 := B_m.out.cell (j := 0) rfl
          have m_1 := B_m.out.cell (j := 1) rfl
          have m_2 := B_m.out.cell (j := 2) rfl
          have m_3 := B_m.out.cell (j := 3) rfl
          have m_4 := B_m.out.cell (j := 4) rfl
          have m_5 := B_m.out.cell (j := 5) rfl
          have m_6 := B_m.out.cell (j := 6) rfl
          have m_7 := B_m.out.cell (j := 7) rfl
          have m_f := B_m.out.frozen
          have m_z := B_m.out.lt
          go_wp2_with fail
          refine (splate (two (G q).a (ch G q).a (G q).b (ch G q).c) (two (G q).a (ch G q).b (G q).b (ch G q).d) (two (G q).c (ch G q).a (G q).d (ch G q).c) (two (G q).c (ch G q).b (G q).d (ch G q).d) _).mono ?_
          rintro e v5 ⟨rfl, hb⟩
          clear m_0 m_1 m_2 m_3 m_4 m_5 m_6 m_7 m_f m_z
          replace B_r : Hid (Blk v5 (w.heap.size) #[.int .i64 0, .int .i64 0, .int .i64 0, .int .i64 0, .int .i64 0, .int .i64 0, .int .i64 0, .int .i64 0, .int .i64 0] 66) := by show Blk v5 (w.heap.size) _ _; exact Blk.old B_r.out hb
          replace B_m : Hid (Blk v5 (w.heap.size + 1) #[.int .i64 ((two (G q).a (ch G q).a (G q).b (ch G q).c).re), .int .i64 ((two (G q).a (ch G q).a (G q).b (ch G q).c).im), .int .i64 ((two (G q).a (ch G q).b (G q).b (ch G q).d).re), .int .i64 ((two (G q).a (ch G q).b (G q).b (ch G q).d).im), .int .i64 ((two (G q).c (ch G q).a (G q).d (ch G q).c).re), .int .i64 ((two (G q).c (ch G q).a (G q).d (ch G q).c).im), .int .i64 ((two (G q).c (ch G q).b (G q).d (ch G q).d).re), .int .i64 ((two (G q).c (ch G q).b (G q).d (ch G q).d).im)] 27) := by show Blk v5 (w.heap.size + 1) _ _; exact Blk.old B_m.out hb
          replace B_e : Hid (Blk v5 (wr.heap.size) #[.int .i64 ((G q).a.re), .int .i64 ((G q).a.im), .int .i64 ((G q).b.re), .int .i64 ((G q).b.im), .int .i64 ((G q).c.re), .int .i64 ((G q).c.im), .int .i64 ((G q).d.re), .int .i64 ((G q).d.im)] 27) := by show Blk v5 (wr.heap.size) _ _; exact Blk.old B_e.out hb
          replace HO : Hid (Below w.heap.size w v5) := box_step HO.out hb (Nat.le_refl _)
          clear hb
          rcases plF_or (pmul (G q) (ch G q)) with hq | hq
          · skip
            rw [show pcode (two (G q).a (ch G q).a (G q).b (ch G q).c) (two (G q).a (ch G q).b (G q).b (ch G q).d) (two (G q).c (ch G q).a (G q).d (ch G q).c) (two (G q).c (ch G q).b (G q).d (ch G q).d) = 0 from hq]
            go_wp2
            go_roundw
            case rel => exact ⟨q + 1, by omega, by simp, by simp only [okc, HC.out, hp.out, ch, hq, decide_true, Bool.and_self], B_r.out, B_m.out, HO.out⟩
            case measure => simp [intOf]; omega
          · skip
            rw [show pcode (two (G q).a (ch G q).a (G q).b (ch G q).c) (two (G q).a (ch G q).b (G q).b (ch G q).d) (two (G q).c (ch G q).a (G q).d (ch G q).c) (two (G q).c (ch G q).b (G q).d (ch G q).d) = 3 from hq]
            have hf := C0.out (okc_up (k := q + 1) hkn (by simp only [okc, ch, hq]; simp))
            have r_0 := B_r.out.cell (j := 0) rfl
            have r_1 := B_r.out.cell (j := 1) rfl
            have r_2 := B_r.out.cell (j := 2) rfl
            have r_3 := B_r.out.cell (j := 3) rfl
            have r_4 := B_r.out.cell (j := 4) rfl
            have r_5 := B_r.out.cell (j := 5) rfl
            have r_6 := B_r.out.cell (j := 6) rfl
            have r_7 := B_r.out.cell (j := 7) rfl
            have r_8 := B_r.out.cell (j := 8) rfl
            have r_f := B_r.out.frozen
            have r_z := B_r.out.lt
            go_wp2
            refine bodyPost_ret (v := .agg #[.int .i64 3, .int .i64 0, .int .i64 0, .int .i64 0, .int .i64 0, .int .i64 0, .int .i64 0, .int .i64 0, .int .i64 0]) (by simp [results, Try.results39, go_sem, r_0, r_1, r_2, r_3, r_4, r_5, r_6, r_7, r_8, r_f, r_z] <;> (repeat' (first | rfl | apply And.intro))) rfl ⟨by rw [hf.1, hf.2]; rfl, ?_⟩
            exact (Below.setCell (Below.setCell (Below.setCell (Below.setCell (Below.setCell (Below.setCell (Below.setCell (Below.setCell (Below.setCell HO.out low_r.out _) low_r.out _) low_r.out _) low_r.out _) low_r.out _) low_r.out _) low_r.out _) low_r.out _) low_r.out _)
        · obtain rfl : q = k := by omega
          have B_r : Hid (Blk wr (w.heap.size) #[.int .i64 0, .int .i64 0, .int .i64 0, .int .i64 0, .int .i64 0, .int .i64 0, .int .i64 0, .int .i64 0, .int .i64 0] 66) := br
          have B_m : Hid (Blk wr (w.heap.size + 1) #[.int .i64 ((ch G q).a.re), .int .i64 ((ch G q).a.im), .int .i64 ((ch G q).b.re), .int .i64 ((ch G q).b.im), .int .i64 ((ch G q).c.re), .int .i64 ((ch G q).c.im), .int .i64 ((ch G q).d.re), .int .i64 ((ch G q).d.im)] 27) := bm
          have HO : Hid (Below w.heap.size w wr) := ho
          have hf := C1.out HC.out
          clear hc later br bm ho
          have m_0 := B_m.out.cell (j := 0) rfl
          have m_1 := B_m.out.cell (j := 1) rfl
          have m_2 := B_m.out.cell (j := 2) rfl
          have m_3 := B_m.out.cell (j := 3) rfl
          have m_4 := B_m.out.cell (j := 4) rfl
          have m_5 := B_m.out.cell (j := 5) rfl
          have m_6 := B_m.out.cell (j := 6) rfl
          have m_7 := B_m.out.cell (j := 7) rfl
          have m_f := B_m.out.frozen
          have m_z := B_m.out.lt
          have r_0 := B_r.out.cell (j := 0) rfl
          have r_1 := B_r.out.cell (j := 1) rfl
          have r_2 := B_r.out.cell (j := 2) rfl
          have r_3 := B_r.out.cell (j := 3) rfl
          have r_4 := B_r.out.cell (j := 4) rfl
          have r_5 := B_r.out.cell (j := 5) rfl
          have r_6 := B_r.out.cell (j := 6) rfl
          have r_7 := B_r.out.cell (j := 7) rfl
          have r_8 := B_r.out.cell (j := 8) rfl
          have r_f := B_r.out.frozen
          have r_z := B_r.out.lt
          go_wp2
          refine bodyPost_ret (v := .agg #[.int .i64 0, .int .i64 ((ch G q).a.re), .int .i64 ((ch G q).a.im), .int .i64 ((ch G q).b.re), .int .i64 ((ch G q).b.im), .int .i64 ((ch G q).c.re), .int .i64 ((ch G q).c.im), .int .i64 ((ch G q).d.re), .int .i64 ((ch G q).d.im)]) (by simp [results, Try.results39, go_sem, m_0, m_1, m_2, m_3, m_4, m_5, m_6, m_7, m_f, m_z, r_0, r_1, r_2, r_3, r_4, r_5, r_6, r_7, r_8, r_f, r_z] <;> (repeat' (first | rfl | apply And.intro))) rfl ⟨by rw [hf.1, hf.2], ?_⟩
          exact (Below.setCell (Below.setCell (Below.setCell (Below.setCell (Below.setCell (Below.setCell (Below.setCell (Below.setCell (Below.setCell HO.out low_r.out _) low_r.out _) low_r.out _) low_r.out _) low_r.out _) low_r.out _) low_r.out _) low_r.out _) low_r.out _)
set_option maxHeartbeats 1600000 in
theorem ich_nil (ao : Option Addr) (cap : Nat) (G : Nat → Pl) (w : World) : Calls Try.prog 41 #[.slice ao 0 cap] w fun e w' => e = .returned (.agg #[.int .i64 (chC G 0), .int .i64 ((chP G 0).a.re), .int .i64 ((chP G 0).a.im), .int .i64 ((chP G 0).b.re), .int .i64 ((chP G 0).b.im), .int .i64 ((chP G 0).c.re), .int .i64 ((chP G 0).c.im), .int .i64 ((chP G 0).d.re), .int .i64 ((chP G 0).d.im)]) ∧ Below w.heap.size w w' := by
  go_enter Try.func41, Try.ntmps41
  go_wp2_with fail
  refine wp_loop_rounds 1 ?_
  rw [rounds_succ]
  go_wp2
  refine bodyPost_ret (v := .agg #[.int .i64 0, .int .i64 1, .int .i64 0, .int .i64 0, .int .i64 0, .int .i64 0, .int .i64 0, .int .i64 1, .int .i64 0]) (by simp [results, Try.results41, go_sem] <;> (repeat' (first | rfl | apply And.intro))) rfl ⟨rfl, ?_⟩
  go_grown
theorem ich {w : World} {v : Value} {n : Nat} {G : Nat → Pl} (h : RdV w v n 8 (fun i j => plc (G i) j)) : Calls Try.prog 41 #[v] w fun e w' => e = .returned (.agg #[.int .i64 (chC G n), .int .i64 ((chP G n).a.re), .int .i64 ((chP G n).a.im), .int .i64 ((chP G n).b.re), .int .i64 ((chP G n).b.im), .int .i64 ((chP G n).c.re), .int .i64 ((chP G n).c.im), .int .i64 ((chP G n).d.re), .int .i64 ((chP G n).d.im)]) ∧ Below w.heap.size w w' := by
  by_cases hn : 100 < n
  · obtain ⟨ao, cap, rfl⟩ := h.form
    exact ich_many ao n cap G w hn
  · rcases h with ⟨ao, cap, rfl, rfl⟩ | ⟨b, off, cap, rfl, hc⟩
    · exact ich_nil ao cap G w
    · exact ich_some b off n cap G w (by omega) hc
set_option maxHeartbeats 1600000 in
theorem sch_nil (ao : Option Addr) (cap : Nat) (G : Nat → Pl) (w : World) : Calls Try.prog 39 #[.slice ao 0 cap] w fun e w' => e = .returned (.agg #[.int .i64 (chC G 0), .int .i64 ((chP G 0).a.re), .int .i64 ((chP G 0).a.im), .int .i64 ((chP G 0).b.re), .int .i64 ((chP G 0).b.im), .int .i64 ((chP G 0).c.re), .int .i64 ((chP G 0).c.im), .int .i64 ((chP G 0).d.re), .int .i64 ((chP G 0).d.im)]) ∧ Below w.heap.size w w' := by
  go_enter Try.func39, Try.ntmps39
  go_wp2_with fail
  refine wp_loop_rounds 1 ?_
  rw [rounds_succ]
  go_wp2_with fail
  refine wp_loop_rounds 1 ?_
  rw [rounds_succ]
  go_wp2
  refine bodyPost_ret (v := .agg #[.int .i64 0, .int .i64 1, .int .i64 0, .int .i64 0, .int .i64 0, .int .i64 0, .int .i64 0, .int .i64 1, .int .i64 0]) (by simp [results, Try.results39, go_sem] <;> (repeat' (first | rfl | apply And.intro))) rfl ⟨rfl, ?_⟩
  go_grown
theorem sch {w : World} {v : Value} {n : Nat} {G : Nat → Pl} (h : RdV w v n 8 (fun i j => plc (G i) j)) : Calls Try.prog 39 #[v] w fun e w' => e = .returned (.agg #[.int .i64 (chC G n), .int .i64 ((chP G n).a.re), .int .i64 ((chP G n).a.im), .int .i64 ((chP G n).b.re), .int .i64 ((chP G n).b.im), .int .i64 ((chP G n).c.re), .int .i64 ((chP G n).c.im), .int .i64 ((chP G n).d.re), .int .i64 ((chP G n).d.im)]) ∧ Below w.heap.size w w' := by
  by_cases hn : 100 < n
  · obtain ⟨ao, cap, rfl⟩ := h.form
    exact sch_many ao n cap G w hn
  · rcases h with ⟨ao, cap, rfl, rfl⟩ | ⟨b, off, cap, rfl, hc⟩
    · exact sch_nil ao cap G w
    · exact sch_some b off n cap G w (by omega) hc
end Go.Proofs.Ytloebnlmeplgbaa
