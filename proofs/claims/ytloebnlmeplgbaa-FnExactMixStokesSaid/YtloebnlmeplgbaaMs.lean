/- Lights that are mixed: the specification, and both packages over any list. -/
import Derived.Test.YtloebnlmeplgbaaMi
import Derived.Handy
namespace Go.Proofs.Ytloebnlmeplgbaa
open Go.RowKit
set_option linter.unusedVariables false
set_option linter.unusedSimpArgs false
set_option maxRecDepth 20000 in
set_option maxHeartbeats 3200000 in
theorem smx_some (b off n cap : Nat) (G : Nat → Sk) (w : World) (hn : n ≤ 100) (hc : ∀ i, i < n → ∀ j, j < 4 → w.cell? ⟨b, off + i * 4 + j, none⟩ = some (skc (G i) j)) : Calls Try.prog 50 #[.slice (some ⟨b, off, none⟩) n cap] w fun e w' => e = .returned (.agg #[.int .i64 (mxC G n), .int .i64 ((mxS G n).i), .int .i64 ((mxS G n).q), .int .i64 ((mxS G n).u), .int .i64 ((mxS G n).v)]) ∧ Below w.heap.size w w' := by
  have HN : Hid (n ≤ 100) := hn
  have later : ∀ (wr : World) (p : Addr) {v : Value}, w.cell? p = some v → Below w.heap.size w wr → wr.cell? p = some v := fun wr p v h hb => (hb.cell (World.block_lt_of_cell? _ _ h)).trans h
  have hn9 : ¬ (100 < (n : Int)) := by omega
  clear hn
  go_enter Try.func50, Try.ntmps50
  have HO : Hid (Below w.heap.size w w) := Below.refl _ _
  go_upto_region 3 with fail
  obtain ⟨v1, hv⟩ : ∃ Xw, Xw = (w.alloc (.cells #[.int .i64 0, .int .i64 0, .int .i64 0, .int .i64 0, .int .i64 0] 38)) := ⟨_, rfl⟩
  rw [← hv]
  have B_r : Hid (Blk v1 (w.heap.size) #[.int .i64 0, .int .i64 0, .int .i64 0, .int .i64 0, .int .i64 0] 38) := by show Blk v1 (w.heap.size) _ _; rw [hv]; exact (Blk.new (by simp))
  have low_r : Hid (w.heap.size ≤ w.heap.size) := by show w.heap.size ≤ w.heap.size; have := HO.out.size; omega
  replace HO : Hid (Below w.heap.size w v1) := by show Below w.heap.size w v1; rw [hv]; exact (below_new HO.out _)
  clear hv
  go_wp2_with fail
  go_loopw [3] (fun i wr => ∃ k : Nat, k ≤ n ∧ i = .int .i64 k ∧ mf G k = 0 ∧ Blk wr (w.heap.size) #[.int .i64 0, .int .i64 0, .int .i64 0, .int .i64 0, .int .i64 0] 38 ∧ Below w.heap.size w wr) (fun i _ => n - (intOf i).toNat)
  case atStart => exact ⟨0, Nat.zero_le _, rfl, rfl, B_r.out, HO.out⟩
  case round =>
    clear B_r HO
    obtain ⟨k, hk, rfl, hok, br, ho⟩ := hrel
    have HK : Hid (mf G k = 0) := hok
    clear hok
    by_cases hkn : k < n
    · skip
      have B_r : Hid (Blk wr (w.heap.size) #[.int .i64 0, .int .i64 0, .int .i64 0, .int .i64 0, .int .i64 0] 38) := br
      have HO : Hid (Below w.heap.size w wr) := ho
      have g0 : wr.cell? ⟨b, off + k * 4, none⟩ = some (.int .i64 ((G k).i)) := later _ _ (hc k hkn 0 (by omega)) ho
      have g1 : wr.cell? ⟨b, off + k * 4 + 1, none⟩ = some (.int .i64 ((G k).q)) := later _ _ (hc k hkn 1 (by omega)) ho
      have g2 : wr.cell? ⟨b, off + k * 4 + 2, none⟩ = some (.int .i64 ((G k).u)) := later _ _ (hc k hkn 2 (by omega)) ho
      have g3 : wr.cell? ⟨b, off + k * 4 + 3, none⟩ = some (.int .i64 ((G k).v)) := later _ _ (hc k hkn 3 (by omega)) ho
      clear br ho hc later
      go_wp2_with fail
      refine (sstokF (G k) _).mono ?_
      rintro e v2 ⟨rfl, hb⟩
      replace B_r : Hid (Blk v2 (w.heap.size) #[.int .i64 0, .int .i64 0, .int .i64 0, .int .i64 0, .int .i64 0] 38) := by show Blk v2 (w.heap.size) _ _; exact Blk.old B_r.out hb
      replace HO : Hid (Below w.heap.size w v2) := box_step HO.out hb (Nat.le_refl _)
      clear hb
      clear g0 g1 g2 g3
      by_cases hp : scode (G k) = 0
      · skip
        rw [hp]
        go_wp2
        go_roundw
        case rel => exact ⟨k + 1, by omega, by simp, by simp [mf, HK.out, hp], B_r.out, HO.out⟩
        case measure => simp [intOf]; omega
      · skip
        have hf := mx_f HN.out (by rw [mf_first hkn HK.out hp]; exact hp)
        rw [mf_first hkn HK.out hp] at hf
        obtain ⟨cz, hcz⟩ : ∃ c, c = scode (G k) := ⟨_, rfl⟩
        rw [← hcz] at hp hf ⊢
        clear hcz
        have hpb : (cz != 0) = true := by simpa using hp
        have r_0 := B_r.out.cell (j := 0) rfl
        have r_1 := B_r.out.cell (j := 1) rfl
        have r_2 := B_r.out.cell (j := 2) rfl
        have r_3 := B_r.out.cell (j := 3) rfl
        have r_4 := B_r.out.cell (j := 4) rfl
        have r_f := B_r.out.frozen
        have r_z := B_r.out.lt
        go_wp2
        refine bodyPost_ret (v := .agg #[.int .i64 cz, .int .i64 0, .int .i64 0, .int .i64 0, .int .i64 0]) (by simp [results, Try.results50, go_sem, r_0, r_1, r_2, r_3, r_4, r_f, r_z] <;> (repeat' (first | rfl | apply And.intro))) rfl ⟨by rw [hf.1, hf.2]; rfl, ?_⟩
        exact (Below.setCell (Below.setCell (Below.setCell (Below.setCell (Below.setCell HO.out low_r.out _) low_r.out _) low_r.out _) low_r.out _) low_r.out _)
    · obtain rfl : k = n := by omega
      have B_r : Hid (Blk wr (w.heap.size) #[.int .i64 0, .int .i64 0, .int .i64 0, .int .i64 0, .int .i64 0] 38) := br
      have HO : Hid (Below w.heap.size w wr) := ho
      obtain ⟨w0, hw0⟩ : ∃ W, W = wr := ⟨_, rfl⟩
      subst hw0
      clear br ho
      go_upto_region 10 with fail
      obtain ⟨v2, hv⟩ : ∃ Xw, Xw = (w0.alloc (.cells #[.int .i64 0, .int .i64 0, .int .i64 0, .int .i64 0] 36)) := ⟨_, rfl⟩
      rw [← hv]
      have ne_r_m : Hid (w.heap.size ≠ w0.heap.size) := Nat.ne_of_lt (Nat.lt_of_lt_of_le B_r.out.lt (by omega))
      have B_m : Hid (Blk v2 (w0.heap.size) #[.int .i64 0, .int .i64 0, .int .i64 0, .int .i64 0] 36) := by show Blk v2 (w0.heap.size) _ _; rw [hv]; exact (Blk.new (by simp))
      have low_m : Hid (w.heap.size ≤ w0.heap.size) := by show w.heap.size ≤ w0.heap.size; have := HO.out.size; omega
      replace B_r : Hid (Blk v2 (w.heap.size) #[.int .i64 0, .int .i64 0, .int .i64 0, .int .i64 0, .int .i64 0] 38) := by show Blk v2 (w.heap.size) _ _; rw [hv]; exact (Blk.alloc B_r.out _)
      replace HO : Hid (Below w.heap.size w v2) := by show Below w.heap.size w v2; rw [hv]; exact (below_new HO.out _)
      clear hv
      go_wp2_with fail
      go_loopw [6] (fun i wr => ∃ q : Nat, q ≤ k ∧ i = .int .i64 q ∧ Blk wr (w.heap.size) #[.int .i64 0, .int .i64 0, .int .i64 0, .int .i64 0, .int .i64 0] 38 ∧ Blk wr (w0.heap.size) #[.int .i64 ((sm G q).i), .int .i64 ((sm G q).q), .int .i64 ((sm G q).u), .int .i64 ((sm G q).v)] 36 ∧ Below w.heap.size w wr) (fun i _ => k - (intOf i).toNat)
      case atStart => exact ⟨0, Nat.zero_le _, rfl, B_r.out, B_m.out, HO.out⟩
      case round =>
        clear B_r B_m HO
        obtain ⟨q, hq0, rfl, br, bm, ho⟩ := hrel
        by_cases hkn : q < k
        · skip
          have B_r : Hid (Blk wr (w.heap.size) #[.int .i64 0, .int .i64 0, .int .i64 0, .int .i64 0, .int .i64 0] 38) := br
          have HO : Hid (Below w.heap.size w wr) := ho
          have B_m : Hid (Blk wr (w0.heap.size) #[.int .i64 ((sm G q).i), .int .i64 ((sm G q).q), .int .i64 ((sm G q).u), .int .i64 ((sm G q).v)] 36) := bm
          have hgl : ∀ x : Kept wr.heap.size wr, Below w.heap.size w x.w := fun x => ho.trans (x.h.mono ho.size)
          have g0 : ∀ x : Kept wr.heap.size wr, x.w.cell? ⟨b, off + q * 4, none⟩ = some (.int .i64 ((G q).i)) := fun x => later _ _ (hc q hkn 0 (by omega)) (hgl x)
          have g1 : ∀ x : Kept wr.heap.size wr, x.w.cell? ⟨b, off + q * 4 + 1, none⟩ = some (.int .i64 ((G q).q)) := fun x => later _ _ (hc q hkn 1 (by omega)) (hgl x)
          have g2 : ∀ x : Kept wr.heap.size wr, x.w.cell? ⟨b, off + q * 4 + 2, none⟩ = some (.int .i64 ((G q).u)) := fun x => later _ _ (hc q hkn 2 (by omega)) (hgl x)
          have g3 : ∀ x : Kept wr.heap.size wr, x.w.cell? ⟨b, off + q * 4 + 3, none⟩ = some (.int .i64 ((G q).v)) := fun x => later _ _ (hc q hkn 3 (by omega)) (hgl x)
          clear br bm ho hc later hgl
          go_upto_region 13 with fail
          have k_m_0 : ∀ x : Kept wr.heap.size wr, x.w.cell? ⟨w0.heap.size, 0, none⟩ = some (.int .i64 ((sm G q).i)) := fun x => x.cell B_m.out.lt (B_m.out.cell (j := 0) rfl)
          have k_m_1 : ∀ x : Kept wr.heap.size wr, x.w.cell? ⟨w0.heap.size, 1, none⟩ = some (.int .i64 ((sm G q).q)) := fun x => x.cell B_m.out.lt (B_m.out.cell (j := 1) rfl)
          have k_m_2 : ∀ x : Kept wr.heap.size wr, x.w.cell? ⟨w0.heap.size, 2, none⟩ = some (.int .i64 ((sm G q).u)) := fun x => x.cell B_m.out.lt (B_m.out.cell (j := 2) rfl)
          have k_m_3 : ∀ x : Kept wr.heap.size wr, x.w.cell? ⟨w0.heap.size, 3, none⟩ = some (.int .i64 ((sm G q).v)) := fun x => x.cell B_m.out.lt (B_m.out.cell (j := 3) rfl)
          refine wp_region_last' wr.heap.size (by kernel_rfl) rfl rfl (by kernel_rfl) (lastOk_of (by kernel_rfl)) ?_
          intro hne
          dsimp only [List.dropLast]
          repeat (go_big_quiet_step (fail))
          refine wpQuiet_nil ?_
          rintro u3 ⟨xk, hxk⟩
          have hR1 := xk.h
          rw [← hxk] at hR1
          clear hxk xk hne k_m_0 k_m_1 k_m_2 k_m_3
          replace B_r : Hid (Blk u3 (w.heap.size) #[.int .i64 0, .int .i64 0, .int .i64 0, .int .i64 0, .int .i64 0] 38) := by show Blk u3 (w.heap.size) _ _; exact Blk.old B_r.out hR1
          replace B_m : Hid (Blk u3 (w0.heap.size) #[.int .i64 ((sm G q).i), .int .i64 ((sm G q).q), .int .i64 ((sm G q).u), .int .i64 ((sm G q).v)] 36) := by show Blk u3 (w0.heap.size) _ _; exact Blk.old B_m.out hR1
          replace HO : Hid (Below w.heap.size w u3) := HO.out.trans (hR1.mono HO.out.size)
          clear hR1
          clear g0 g1 g2 g3
          have m_f := B_m.out.frozen
          have mc0 := B_m.out.cell (j := 0) rfl
          have mc1 := B_m.out.cell (j := 1) rfl
          have mc2 := B_m.out.cell (j := 2) rfl
          have mc3 := B_m.out.cell (j := 3) rfl
          go_wp2
          go_roundw
          case rel => exact ⟨q + 1, by omega, by simp, (Blk.setOther (Blk.setOther (Blk.setOther (Blk.setOther B_r.out ne_r_m.out _) ne_r_m.out _) ne_r_m.out _) ne_r_m.out _), (Blk.set (Blk.set (Blk.set (Blk.set B_m.out _ _ rfl) _ _ rfl) _ _ rfl) _ _ rfl), (Below.setCell (Below.setCell (Below.setCell (Below.setCell HO.out low_m.out _) low_m.out _) low_m.out _) low_m.out _)⟩
          case measure => simp [intOf]; omega
        · obtain rfl : q = k := by omega
          have B_r : Hid (Blk wr (w.heap.size) #[.int .i64 0, .int .i64 0, .int .i64 0, .int .i64 0, .int .i64 0] 38) := br
          have HO : Hid (Below w.heap.size w wr) := ho
          have B_m : Hid (Blk wr (w0.heap.size) #[.int .i64 ((sm G q).i), .int .i64 ((sm G q).q), .int .i64 ((sm G q).u), .int .i64 ((sm G q).v)] 36) := bm
          clear hc later br bm ho
          have m_0 := B_m.out.cell (j := 0) rfl
          have m_1 := B_m.out.cell (j := 1) rfl
          have m_2 := B_m.out.cell (j := 2) rfl
          have m_3 := B_m.out.cell (j := 3) rfl
          have m_f := B_m.out.frozen
          have m_z := B_m.out.lt
          go_wp2_with fail
          refine (sstokF (sm G q) _).mono ?_
          rintro e v3 ⟨rfl, hb⟩
          clear m_0 m_1 m_2 m_3 m_f m_z
          replace B_r : Hid (Blk v3 (w.heap.size) #[.int .i64 0, .int .i64 0, .int .i64 0, .int .i64 0, .int .i64 0] 38) := by show Blk v3 (w.heap.size) _ _; exact Blk.old B_r.out hb
          replace B_m : Hid (Blk v3 (w0.heap.size) #[.int .i64 ((sm G q).i), .int .i64 ((sm G q).q), .int .i64 ((sm G q).u), .int .i64 ((sm G q).v)] 36) := by show Blk v3 (w0.heap.size) _ _; exact Blk.old B_m.out hb
          replace HO : Hid (Below w.heap.size w v3) := box_step HO.out hb (Nat.le_refl _)
          clear hb
          by_cases hp : scode (sm G q) = 0
          · skip
            have hf := mx_o HN.out HK.out hp
            rw [hp]
            have m_0 := B_m.out.cell (j := 0) rfl
            have m_1 := B_m.out.cell (j := 1) rfl
            have m_2 := B_m.out.cell (j := 2) rfl
            have m_3 := B_m.out.cell (j := 3) rfl
            have m_f := B_m.out.frozen
            have m_z := B_m.out.lt
            have r_0 := B_r.out.cell (j := 0) rfl
            have r_1 := B_r.out.cell (j := 1) rfl
            have r_2 := B_r.out.cell (j := 2) rfl
            have r_3 := B_r.out.cell (j := 3) rfl
            have r_4 := B_r.out.cell (j := 4) rfl
            have r_f := B_r.out.frozen
            have r_z := B_r.out.lt
            go_wp2
            refine bodyPost_ret (v := .agg #[.int .i64 0, .int .i64 ((sm G q).i), .int .i64 ((sm G q).q), .int .i64 ((sm G q).u), .int .i64 ((sm G q).v)]) (by simp [results, Try.results50, go_sem, m_0, m_1, m_2, m_3, m_f, m_z, r_0, r_1, r_2, r_3, r_4, r_f, r_z] <;> (repeat' (first | rfl | apply And.intro))) rfl ⟨by rw [hf.1, hf.2], ?_⟩
            exact (Below.setCell (Below.setCell (Below.setCell (Below.setCell (Below.setCell HO.out low_r.out _) low_r.out _) low_r.out _) low_r.out _) low_r.out _)
          · skip
            have hf := mx_r HN.out HK.out hp
            obtain ⟨cz, hcz⟩ : ∃ c, c = scode (sm G q) := ⟨_, rfl⟩
            rw [← hcz] at hp ⊢
            clear hcz
            have hpb : (cz != 0) = true := by simpa using hp
            have r_0 := B_r.out.cell (j := 0) rfl
            have r_1 := B_r.out.cell (j := 1) rfl
            have r_2 := B_r.out.cell (j := 2) rfl
            have r_3 := B_r.out.cell (j := 3) rfl
            have r_4 := B_r.out.cell (j := 4) rfl
            have r_f := B_r.out.frozen
            have r_z := B_r.out.lt
            go_wp2
            refine bodyPost_ret (v := .agg #[.int .i64 3, .int .i64 0, .int .i64 0, .int .i64 0, .int .i64 0]) (by simp [results, Try.results50, go_sem, r_0, r_1, r_2, r_3, r_4, r_f, r_z] <;> (repeat' (first | rfl | apply And.intro))) rfl ⟨by rw [hf.1, hf.2]; rfl, ?_⟩
            exact (Below.setCell (Below.setCell (Below.setCell (Below.setCell (Below.setCell HO.out low_r.out _) low_r.out _) low_r.out _) low_r.out _) low_r.out _)
set_option maxHeartbeats 800000 in
theorem imx_many (ao : Option Addr) (n cap : Nat) (G : Nat → Sk) (w : World) (hn : 100 < n) : Calls Try.prog 52 #[.slice ao n cap] w fun e w' => e = .returned (.agg #[.int .i64 (mxC G n), .int .i64 ((mxS G n).i), .int .i64 ((mxS G n).q), .int .i64 ((mxS G n).u), .int .i64 ((mxS G n).v)]) ∧ Below w.heap.size w w' := by
  rw [show mxC G n = 2 by simp [mxC, hn], show mxS G n = zsk by simp [mxS, hn]]
  have hn9 : 100 < (n : Int) := by omega
  go_enter Try.func52, Try.ntmps52
  go_wp2
  refine bodyPost_ret (v := .agg #[.int .i64 2, .int .i64 0, .int .i64 0, .int .i64 0, .int .i64 0]) (by simp [results, Try.results52, go_sem] <;> (repeat' (first | rfl | apply And.intro))) rfl ⟨rfl, ?_⟩
  go_grown
set_option maxRecDepth 20000 in
set_option maxHeartbeats 1600000 in
theorem imx_nil (ao : Option Addr) (cap : Nat) (G : Nat → Sk) (w : World) : Calls Try.prog 52 #[.slice ao 0 cap] w fun e w' => e = .returned (.agg #[.int .i64 0, .int .i64 0, .int .i64 0, .int .i64 0, .int .i64 0]) ∧ Below w.heap.size w w' := by
  go_enter Try.func52, Try.ntmps52
  have HO : Hid (Below w.heap.size w w) := Below.refl _ _
  have h0 : scode zsk = 0 := by decide
  go_upto_region 4 with fail
  obtain ⟨v1, hv⟩ : ∃ Xw, Xw = ((w.alloc (.cells #[.int .i64 0, .int .i64 0, .int .i64 0, .int .i64 0, .int .i64 0] 38)).alloc (.cells #[.int .i64 0, .int .i64 0, .int .i64 0, .int .i64 0] 105)) := ⟨_, rfl⟩
  rw [← hv]
  have ne_r_m : Hid (w.heap.size ≠ w.heap.size + 1) := by show (w.heap.size : Nat) ≠ w.heap.size + 1; omega
  have B_r : Hid (Blk v1 (w.heap.size) #[.int .i64 0, .int .i64 0, .int .i64 0, .int .i64 0, .int .i64 0] 38) := by show Blk v1 (w.heap.size) _ _; rw [hv]; exact (Blk.alloc (Blk.new (by simp)) _)
  have low_r : Hid (w.heap.size ≤ w.heap.size) := by show w.heap.size ≤ w.heap.size; have := HO.out.size; omega
  have B_m : Hid (Blk v1 (w.heap.size + 1) #[.int .i64 0, .int .i64 0, .int .i64 0, .int .i64 0] 105) := by show Blk v1 (w.heap.size + 1) _ _; rw [hv]; exact (Blk.new (by simp))
  have low_m : Hid (w.heap.size ≤ w.heap.size + 1) := by show w.heap.size ≤ w.heap.size + 1; have := HO.out.size; omega
  replace HO : Hid (Below w.heap.size w v1) := by show Below w.heap.size w v1; rw [hv]; exact (below_new (below_new HO.out _) _)
  clear hv
  go_wp2_with fail
  refine wp_loop_rounds 1 ?_
  rw [rounds_succ]
  have m_0 := B_m.out.cell (j := 0) rfl
  have m_1 := B_m.out.cell (j := 1) rfl
  have m_2 := B_m.out.cell (j := 2) rfl
  have m_3 := B_m.out.cell (j := 3) rfl
  have m_f := B_m.out.frozen
  have m_z := B_m.out.lt
  go_wp2_with fail
  refine (istok zsk _).mono ?_
  rintro e v2 ⟨rfl, hb⟩
  clear m_0 m_1 m_2 m_3 m_f m_z
  replace B_r : Hid (Blk v2 (w.heap.size) #[.int .i64 0, .int .i64 0, .int .i64 0, .int .i64 0, .int .i64 0] 38) := by show Blk v2 (w.heap.size) _ _; exact Blk.old B_r.out hb
  replace B_m : Hid (Blk v2 (w.heap.size + 1) #[.int .i64 0, .int .i64 0, .int .i64 0, .int .i64 0] 105) := by show Blk v2 (w.heap.size + 1) _ _; exact Blk.old B_m.out hb
  replace HO : Hid (Below w.heap.size w v2) := box_step HO.out hb (Nat.le_refl _)
  clear hb
  go_wp2_with fail
  refine (istokF zsk _).mono ?_
  rintro e v3 ⟨rfl, hb⟩
  replace B_r : Hid (Blk v3 (w.heap.size) #[.int .i64 0, .int .i64 0, .int .i64 0, .int .i64 0, .int .i64 0] 38) := by show Blk v3 (w.heap.size) _ _; exact Blk.old B_r.out hb
  replace B_m : Hid (Blk v3 (w.heap.size + 1) #[.int .i64 0, .int .i64 0, .int .i64 0, .int .i64 0] 105) := by show Blk v3 (w.heap.size + 1) _ _; exact Blk.old B_m.out hb
  replace HO : Hid (Below w.heap.size w v3) := box_step HO.out hb (Nat.le_refl _)
  clear hb
  rw [h0]
  have m_0 := B_m.out.cell (j := 0) rfl
  have m_1 := B_m.out.cell (j := 1) rfl
  have m_2 := B_m.out.cell (j := 2) rfl
  have m_3 := B_m.out.cell (j := 3) rfl
  have m_f := B_m.out.frozen
  have m_z := B_m.out.lt
  go_wp2_with fail
  refine (istok zsk _).mono ?_
  rintro e v4 ⟨rfl, hb⟩
  clear m_0 m_1 m_2 m_3 m_f m_z
  replace B_r : Hid (Blk v4 (w.heap.size) #[.int .i64 0, .int .i64 0, .int .i64 0, .int .i64 0, .int .i64 0] 38) := by show Blk v4 (w.heap.size) _ _; exact Blk.old B_r.out hb
  replace B_m : Hid (Blk v4 (w.heap.size + 1) #[.int .i64 0, .int .i64 0, .int .i64 0, .int .i64 0] 105) := by show Blk v4 (w.heap.size + 1) _ _; exact Blk.old B_m.out hb
  replace HO : Hid (Below w.heap.size w v4) := box_step HO.out hb (Nat.le_refl _)
  clear hb
  have r_0 := B_r.out.cell (j := 0) rfl
  have r_1 := B_r.out.cell (j := 1) rfl
  have r_2 := B_r.out.cell (j := 2) rfl
  have r_3 := B_r.out.cell (j := 3) rfl
  have r_4 := B_r.out.cell (j := 4) rfl
  have r_f := B_r.out.frozen
  have r_z := B_r.out.lt
  go_wp2
  refine bodyPost_ret (v := .agg #[.int .i64 0, .int .i64 0, .int .i64 0, .int .i64 0, .int .i64 0]) (by simp [results, Try.results52, go_sem, r_0, r_1, r_2, r_3, r_4, r_f, r_z] <;> (repeat' (first | rfl | apply And.intro))) rfl ⟨rfl, ?_⟩
  exact (Below.setCell (Below.setCell (Below.setCell (Below.setCell (Below.setCell HO.out low_r.out _) low_r.out _) low_r.out _) low_r.out _) low_r.out _)
theorem imx {w : World} {v : Value} {n : Nat} {G : Nat → Sk} (h : RdV w v n 4 (fun i j => skc (G i) j)) : Calls Try.prog 52 #[v] w fun e w' => e = .returned (.agg #[.int .i64 (mxC G n), .int .i64 ((mxS G n).i), .int .i64 ((mxS G n).q), .int .i64 ((mxS G n).u), .int .i64 ((mxS G n).v)]) ∧ Below w.heap.size w w' := by
  by_cases hn : 100 < n
  · obtain ⟨ao, cap, rfl⟩ := h.form
    exact imx_many ao n cap G w hn
  · rcases h with ⟨ao, cap, rfl, rfl⟩ | ⟨b, off, cap, rfl, hc⟩
    · have e := mx_o (G := G) (n := 0) (by omega) rfl (by show scode zsk = 0; decide)
      rw [e.1, e.2]
      exact imx_nil ao cap G w
    · exact imx_some b off n cap G w (by omega) hc
set_option maxHeartbeats 800000 in
theorem smx_many (ao : Option Addr) (n cap : Nat) (G : Nat → Sk) (w : World) (hn : 100 < n) : Calls Try.prog 50 #[.slice ao n cap] w fun e w' => e = .returned (.agg #[.int .i64 (mxC G n), .int .i64 ((mxS G n).i), .int .i64 ((mxS G n).q), .int .i64 ((mxS G n).u), .int .i64 ((mxS G n).v)]) ∧ Below w.heap.size w w' := by
  rw [show mxC G n = 2 by simp [mxC, hn], show mxS G n = zsk by simp [mxS, hn]]
  have hn9 : 100 < (n : Int) := by omega
  go_enter Try.func50, Try.ntmps50
  go_wp2
  refine bodyPost_ret (v := .agg #[.int .i64 2, .int .i64 0, .int .i64 0, .int .i64 0, .int .i64 0]) (by simp [results, Try.results50, go_sem] <;> (repeat' (first | rfl | apply And.intro))) rfl ⟨rfl, ?_⟩
  go_grown
set_option maxRecDepth 20000 in
set_option maxHeartbeats 1600000 in
theorem smx_nil (ao : Option Addr) (cap : Nat) (G : Nat → Sk) (w : World) : Calls Try.prog 50 #[.slice ao 0 cap] w fun e w' => e = .returned (.agg #[.int .i64 0, .int .i64 0, .int .i64 0, .int .i64 0, .int .i64 0]) ∧ Below w.heap.size w w' := by
  go_enter Try.func50, Try.ntmps50
  have HO : Hid (Below w.heap.size w w) := Below.refl _ _
  have h0 : scode zsk = 0 := by decide
  go_upto_region 3 with fail
  obtain ⟨v1, hv⟩ : ∃ Xw, Xw = (w.alloc (.cells #[.int .i64 0, .int .i64 0, .int .i64 0, .int .i64 0, .int .i64 0] 38)) := ⟨_, rfl⟩
  rw [← hv]
  have B_r : Hid (Blk v1 (w.heap.size) #[.int .i64 0, .int .i64 0, .int .i64 0, .int .i64 0, .int .i64 0] 38) := by show Blk v1 (w.heap.size) _ _; rw [hv]; exact (Blk.new (by simp))
  have low_r : Hid (w.heap.size ≤ w.heap.size) := by show w.heap.size ≤ w.heap.size; have := HO.out.size; omega
  replace HO : Hid (Below w.heap.size w v1) := by show Below w.heap.size w v1; rw [hv]; exact (below_new HO.out _)
  clear hv
  go_wp2_with fail
  refine wp_loop_rounds 1 ?_
  rw [rounds_succ]
  go_upto_region 10 with fail
  obtain ⟨v2, hv⟩ : ∃ Xw, Xw = (v1.alloc (.cells #[.int .i64 0, .int .i64 0, .int .i64 0, .int .i64 0] 36)) := ⟨_, rfl⟩
  rw [← hv]
  have ne_r_m : Hid (w.heap.size ≠ v1.heap.size) := Nat.ne_of_lt (Nat.lt_of_lt_of_le B_r.out.lt (by omega))
  have B_m : Hid (Blk v2 (v1.heap.size) #[.int .i64 0, .int .i64 0, .int .i64 0, .int .i64 0] 36) := by show Blk v2 (v1.heap.size) _ _; rw [hv]; exact (Blk.new (by simp))
  have low_m : Hid (w.heap.size ≤ v1.heap.size) := by show w.heap.size ≤ v1.heap.size; have := HO.out.size; omega
  replace B_r : Hid (Blk v2 (w.heap.size) #[.int .i64 0, .int .i64 0, .int .i64 0, .int .i64 0, .int .i64 0] 38) := by show Blk v2 (w.heap.size) _ _; rw [hv]; exact (Blk.alloc B_r.out _)
  replace HO : Hid (Below w.heap.size w v2) := by show Below w.heap.size w v2; rw [hv]; exact (below_new HO.out _)
  clear hv
  go_wp2_with fail
  refine wp_loop_rounds 1 ?_
  rw [rounds_succ]
  have m_0 := B_m.out.cell (j := 0) rfl
  have m_1 := B_m.out.cell (j := 1) rfl
  have m_2 := B_m.out.cell (j := 2) rfl
  have m_3 := B_m.out.cell (j := 3) rfl
  have m_f := B_m.out.frozen
  have m_z := B_m.out.lt
  go_wp2_with fail
  refine (sstokF zsk _).mono ?_
  rintro e v3 ⟨rfl, hb⟩
  clear m_0 m_1 m_2 m_3 m_f m_z
  replace B_r : Hid (Blk v3 (w.heap.size) #[.int .i64 0, .int .i64 0, .int .i64 0, .int .i64 0, .int .i64 0] 38) := by show Blk v3 (w.heap.size) _ _; exact Blk.old B_r.out hb
  replace B_m : Hid (Blk v3 (v1.heap.size) #[.int .i64 0, .int .i64 0, .int .i64 0, .int .i64 0] 36) := by show Blk v3 (v1.heap.size) _ _; exact Blk.old B_m.out hb
  replace HO : Hid (Below w.heap.size w v3) := box_step HO.out hb (Nat.le_refl _)
  clear hb
  rw [h0]
  have m_0 := B_m.out.cell (j := 0) rfl
  have m_1 := B_m.out.cell (j := 1) rfl
  have m_2 := B_m.out.cell (j := 2) rfl
  have m_3 := B_m.out.cell (j := 3) rfl
  have m_f := B_m.out.frozen
  have m_z := B_m.out.lt
  have r_0 := B_r.out.cell (j := 0) rfl
  have r_1 := B_r.out.cell (j := 1) rfl
  have r_2 := B_r.out.cell (j := 2) rfl
  have r_3 := B_r.out.cell (j := 3) rfl
  have r_4 := B_r.out.cell (j := 4) rfl
  have r_f := B_r.out.frozen
  have r_z := B_r.out.lt
  go_wp2
  refine bodyPost_ret (v := .agg #[.int .i64 0, .int .i64 0, .int .i64 0, .int .i64 0, .int .i64 0]) (by simp [results, Try.results50, go_sem, m_0, m_1, m_2, m_3, m_f, m_z, r_0, r_1, r_2, r_3, r_4, r_f, r_z] <;> (repeat' (first | rfl | apply And.intro))) rfl ⟨rfl, ?_⟩
  exact (Below.setCell (Below.setCell (Below.setCell (Below.setCell (Below.setCell HO.out low_r.out _) low_r.out _) low_r.out _) low_r.out _) low_r.out _)
theorem smx {w : World} {v : Value} {n : Nat} {G : Nat → Sk} (h : RdV w v n 4 (fun i j => skc (G i) j)) : Calls Try.prog 50 #[v] w fun e w' => e = .returned (.agg #[.int .i64 (mxC G n), .int .i64 ((mxS G n).i), .int .i64 ((mxS G n).q), .int .i64 ((mxS G n).u), .int .i64 ((mxS G n).v)]) ∧ Below w.heap.size w w' := by
  by_cases hn : 100 < n
  · obtain ⟨ao, cap, rfl⟩ := h.form
    exact smx_many ao n cap G w hn
  · rcases h with ⟨ao, cap, rfl, rfl⟩ | ⟨b, off, cap, rfl, hc⟩
    · have e := mx_o (G := G) (n := 0) (by omega) rfl (by show scode zsk = 0; decide)
      rw [e.1, e.2]
      exact smx_nil ao cap G w
    · exact smx_some b off n cap G w (by omega) hc
end Go.Proofs.Ytloebnlmeplgbaa
