/- A light's numbers through rows: the specification's PassStokes. -/
import Derived.Test.YtloebnlmeplgbaaPi2
import Derived.Handy
namespace Go.Proofs.Ytloebnlmeplgbaa
open Go.RowKit
set_option linter.unusedVariables false
set_option linter.unusedSimpArgs false
theorem sps_len (ao : Option Addr) (n cap : Nat) (a : Sk) (w : World) (hn : n ≠ 4) : Calls Try.prog 23 #[.slice ao n cap, .agg #[.int .i64 a.i, .int .i64 a.q, .int .i64 a.u, .int .i64 a.v]] w fun e w' => e = .returned (.agg #[.int .i64 1, .int .i64 0, .int .i64 0, .int .i64 0, .int .i64 0]) ∧ Below w.heap.size w w' := by
  have hne : ¬ ((n : Int) = 4) := by omega
  go_enter Try.func23, Try.ntmps23
  go_wp2
  refine bodyPost_ret (v := .agg #[.int .i64 1, .int .i64 0, .int .i64 0, .int .i64 0, .int .i64 0]) (by simp [results, Try.results23, go_sem] <;> (repeat' (first | rfl | apply And.intro))) rfl ⟨rfl, ?_⟩
  go_grown
theorem wrap_wrap (n : Int) : wrap64 (wrap64 n) = wrap64 n := by unfold wrap64; omega
theorem seg_step2 {W : World} {b n k : Nat} {t : TypeId} {f g : Nat → Int} (h : Seg W b t 0 n (fun i => .int .i64 (if i < k then f i else g i))) (hk : k < n) {x : Int} (hx : x = f k) :
    Seg (W.setCell ⟨b, k, none⟩ (.int .i64 x)) b t 0 n (fun i => .int .i64 (if i < k + 1 then f i else g i)) := by
  have h := h.set k hk (.int .i64 x)
  rw [Nat.zero_add] at h
  refine h.congr fun i hi => ?_
  by_cases e : i = k
  · subst e
    simp [hx]
  · by_cases e2 : i < k
    · simp [e, e2, Nat.lt_succ_of_lt e2]
    · have : ¬ i < k + 1 := by omega
      simp [e, e2, this]
set_option maxRecDepth 20000 in
set_option maxHeartbeats 6400000 in
theorem sps_some (b off cap : Nat) (ra : Nat → Option Addr) (rc : Nat → Nat) (L : Nat → Nat) (F : Rm.Mx) (a : Sk) (w : World) (hc : ∀ i, i < 4 → w.cell? ⟨b, off + i, none⟩ = some (.slice (ra i) (L i) (rc i)) ∧ (∀ q, q < L i → ∃ rb ro, ra i = some ⟨rb, ro, none⟩ ∧ w.cell? ⟨rb, ro + q, none⟩ = some (.int .i64 (F i q)))) : Calls Try.prog 23 #[.slice (some ⟨b, off, none⟩) 4 cap, .agg #[.int .i64 a.i, .int .i64 a.q, .int .i64 a.u, .int .i64 a.v]] w fun e w' => e = .returned (.agg #[.int .i64 (pcd 4 L F a), .int .i64 ((psk 4 L F a).i), .int .i64 ((psk 4 L F a).q), .int .i64 ((psk 4 L F a).u), .int .i64 ((psk 4 L F a).v)]) ∧ Below w.heap.size w w' := by
  replace hc : Hid _ := hc
  have later : ∀ (wr : World) (p : Addr) {v : Value}, w.cell? p = some v → Below w.heap.size w wr → wr.cell? p = some v := fun wr p v h hb => (hb.cell (World.block_lt_of_cell? _ _ h)).trans h
  replace later : Hid _ := later
  go_enter Try.func23, Try.ntmps23
  have HO : Hid (Below w.heap.size w w) := Below.refl _ _
  go_upto_region 3 with fail
  obtain ⟨v1, hv⟩ : ∃ Xw, Xw = ((w.alloc (.cells #[.int .i64 a.i, .int .i64 a.q, .int .i64 a.u, .int .i64 a.v] 36)).alloc (.cells #[.int .i64 0, .int .i64 0, .int .i64 0, .int .i64 0, .int .i64 0] 38)) := ⟨_, rfl⟩
  rw [← hv]
  have ne_s_r : Hid (w.heap.size ≠ w.heap.size + 1) := by show (w.heap.size : Nat) ≠ w.heap.size + 1; omega
  have B_s : Hid (Blk v1 (w.heap.size) #[.int .i64 a.i, .int .i64 a.q, .int .i64 a.u, .int .i64 a.v] 36) := by show Blk v1 (w.heap.size) _ _; rw [hv]; exact (Blk.alloc (Blk.new (by simp)) _)
  have low_s : Hid (w.heap.size ≤ w.heap.size) := by show w.heap.size ≤ w.heap.size; have := HO.out.size; omega
  have B_r : Hid (Blk v1 (w.heap.size + 1) #[.int .i64 0, .int .i64 0, .int .i64 0, .int .i64 0, .int .i64 0] 38) := by show Blk v1 (w.heap.size + 1) _ _; rw [hv]; exact (Blk.new (by simp))
  have low_r : Hid (w.heap.size ≤ w.heap.size + 1) := by show w.heap.size ≤ w.heap.size + 1; have := HO.out.size; omega
  replace HO : Hid (Below w.heap.size w v1) := by show Below w.heap.size w v1; rw [hv]; exact (below_new (below_new HO.out _) _)
  clear hv
  have BL : Hid (Below w.heap.size w v1) := HO.out
  go_wp2_with fail
  go_loopw [5] (fun i wr => wr = v1 ∧ ∃ k : Nat, k ≤ 4 ∧ i = .int .i64 k ∧ lensOk L k = true) (fun i _ => 4 - (intOf i).toNat)
  case atStart => exact ⟨rfl, 0, Nat.zero_le _, rfl, rfl⟩
  case round =>
    obtain ⟨rfl, k, hk, rfl, ha⟩ := hrel
    by_cases hkn : k < 4
    · skip
      have g := later.out _ _ (hc.out k hkn).1 BL.out
      by_cases hl : L k = 4
      · skip
        have hlI : ((L k : Nat) : Int) = 4 := by omega
        go_wp2
        go_roundw
        case rel => exact ⟨by trivial, k + 1, by omega, by simp, by simp [lensOk, ha, hl]⟩
        case measure => simp [intOf]; omega
      · skip
        have hlI : ¬ (((L k : Nat) : Int) = 4) := by omega
        have hq : mcode 4 L F = 1 := by simp [mcode, lens_bad hkn hl]
        have hm : Hid (pcd 4 L F a = 1 ∧ psk 4 L F a = ⟨0, 0, 0, 0⟩) := ⟨by simp [pcd, hq], by simp [psk, hq]⟩
        have r_0 := B_r.out.cell (j := 0) rfl
        have r_1 := B_r.out.cell (j := 1) rfl
        have r_2 := B_r.out.cell (j := 2) rfl
        have r_3 := B_r.out.cell (j := 3) rfl
        have r_4 := B_r.out.cell (j := 4) rfl
        have r_f := B_r.out.frozen
        have r_z := B_r.out.lt
        go_wp2
        refine bodyPost_ret (v := .agg #[.int .i64 1, .int .i64 0, .int .i64 0, .int .i64 0, .int .i64 0]) (by simp [results, Try.results23, go_sem, r_0, r_1, r_2, r_3, r_4, r_f, r_z] <;> (repeat' (first | rfl | apply And.intro))) rfl ⟨by rw [hm.out.1, hm.out.2], ?_⟩
        exact (Below.setCell (Below.setCell (Below.setCell (Below.setCell (Below.setCell HO.out low_r.out _) low_r.out _) low_r.out _) low_r.out _) low_r.out _)
    · obtain rfl : k = 4 := by omega
      have hL4 : Hid (lensOk L 4 = true) := ha
      clear ha
      obtain ⟨w0, hw0⟩ : ∃ W, W = wr := ⟨_, rfl⟩
      subst hw0
      have HF : Hid (∀ k, k < 4 → ∃ rb ro, ra k = some ⟨rb, ro, none⟩ ∧ w0.cell? ⟨b, off + k, none⟩ = some (.slice (some ⟨rb, ro, none⟩) 4 (rc k)) ∧ ∀ q, q < 4 → w0.cell? ⟨rb, ro + q, none⟩ = some (.int .i64 (F k q))) := by
        intro k hk
        obtain ⟨h1, h2⟩ := hc.out k hk
        rw [lens_at 4 k hk hL4.out] at h1 h2
        obtain ⟨rb, ro, e, _⟩ := h2 0 (by omega)
        refine ⟨rb, ro, e, ?_, fun q hq => ?_⟩
        · rw [← e]; exact later.out _ _ h1 BL.out
        · obtain ⟨rb2, ro2, e2, g⟩ := h2 q hq
          rw [e] at e2
          cases e2
          exact later.out _ _ g BL.out
      go_wp2_with fail
      go_loopw [6] (fun i wr => wr = w0 ∧ ∃ k : Nat, k ≤ 4 ∧ i = .int .i64 k ∧ numsOk F k = true) (fun i _ => 4 - (intOf i).toNat)
      case atStart => exact ⟨rfl, 0, Nat.zero_le _, rfl, rfl⟩
      case round =>
        obtain ⟨rfl, k, hk, rfl, ha⟩ := hrel
        by_cases hkn : k < 4
        · skip
          obtain ⟨rb, ro, _, gk, gq⟩ := HF.out k hkn
          have GQ : Hid (∀ q, q < 4 → wr.cell? ⟨rb, ro + q, none⟩ = some (.int .i64 (F k q))) := gq
          clear gq
          have HA : Hid (numsOk F k = true) := ha
          clear ha
          obtain ⟨w1, hw1⟩ : ∃ W, W = wr := ⟨_, rfl⟩
          subst hw1
          go_wp2_with fail
          go_loopw [7] (fun i wr => wr = w1 ∧ ∃ q : Nat, q ≤ 4 ∧ i = .int .i64 q ∧ allIn 100000000 (F k) q = true) (fun i _ => 4 - (intOf i).toNat)
          case atStart => exact ⟨rfl, 0, Nat.zero_le _, rfl, rfl⟩
          case round =>
            obtain ⟨rfl, q, hq, rfl, hal⟩ := hrel
            by_cases hqn : q < 4
            · skip
              have g1 := GQ.out q hqn
              obtain ⟨f, hf⟩ : ∃ f, f = F k q := ⟨_, rfl⟩
              rw [← hf] at g1
              have HAL : Hid (allIn 100000000 (F k) q = true) := hal
              clear hal
              by_cases b1 : f < -100000000
              · skip
                have hx : ¬ (-100000000 ≤ F k q ∧ F k q ≤ 100000000) := by rw [← hf]; omega
                have hy : allIn 100000000 (F k) 4 = false := by obtain ⟨d, hd⟩ : ∃ d, 4 = q + 1 + d := ⟨4 - (q + 1), by omega⟩; rw [hd]; exact allIn_bad hx d
                have hz : mcode 4 L F = 3 := by simp [mcode, hL4.out, nums_bad hkn hy]
                clear hx hy hf
                have hm : Hid (pcd 4 L F a = 3 ∧ psk 4 L F a = ⟨0, 0, 0, 0⟩) := ⟨by simp [pcd, hz], by simp [psk, hz]⟩
                have r_0 := B_r.out.cell (j := 0) rfl
                have r_1 := B_r.out.cell (j := 1) rfl
                have r_2 := B_r.out.cell (j := 2) rfl
                have r_3 := B_r.out.cell (j := 3) rfl
                have r_4 := B_r.out.cell (j := 4) rfl
                have r_f := B_r.out.frozen
                have r_z := B_r.out.lt
                go_wp2
                refine bodyPost_ret (v := .agg #[.int .i64 3, .int .i64 0, .int .i64 0, .int .i64 0, .int .i64 0]) (by simp [results, Try.results23, go_sem, r_0, r_1, r_2, r_3, r_4, r_f, r_z] <;> (repeat' (first | rfl | apply And.intro))) rfl ⟨by rw [hm.out.1, hm.out.2], ?_⟩
                exact (Below.setCell (Below.setCell (Below.setCell (Below.setCell (Below.setCell HO.out low_r.out _) low_r.out _) low_r.out _) low_r.out _) low_r.out _)
              · by_cases b2 : f > 100000000
                · skip
                  have hx : ¬ (-100000000 ≤ F k q ∧ F k q ≤ 100000000) := by rw [← hf]; omega
                  have hy : allIn 100000000 (F k) 4 = false := by obtain ⟨d, hd⟩ : ∃ d, 4 = q + 1 + d := ⟨4 - (q + 1), by omega⟩; rw [hd]; exact allIn_bad hx d
                  have hz : mcode 4 L F = 3 := by simp [mcode, hL4.out, nums_bad hkn hy]
                  clear hx hy hf
                  have hm : Hid (pcd 4 L F a = 3 ∧ psk 4 L F a = ⟨0, 0, 0, 0⟩) := ⟨by simp [pcd, hz], by simp [psk, hz]⟩
                  have r_0 := B_r.out.cell (j := 0) rfl
                  have r_1 := B_r.out.cell (j := 1) rfl
                  have r_2 := B_r.out.cell (j := 2) rfl
                  have r_3 := B_r.out.cell (j := 3) rfl
                  have r_4 := B_r.out.cell (j := 4) rfl
                  have r_f := B_r.out.frozen
                  have r_z := B_r.out.lt
                  go_wp2
                  refine bodyPost_ret (v := .agg #[.int .i64 3, .int .i64 0, .int .i64 0, .int .i64 0, .int .i64 0]) (by simp [results, Try.results23, go_sem, r_0, r_1, r_2, r_3, r_4, r_f, r_z] <;> (repeat' (first | rfl | apply And.intro))) rfl ⟨by rw [hm.out.1, hm.out.2], ?_⟩
                  exact (Below.setCell (Below.setCell (Below.setCell (Below.setCell (Below.setCell HO.out low_r.out _) low_r.out _) low_r.out _) low_r.out _) low_r.out _)
                · skip
                  have hx : Hid (-100000000 ≤ F k q ∧ F k q ≤ 100000000) := by show _ ∧ _; rw [← hf]; omega
                  clear hf
                  go_wp2
                  go_roundw
                  case rel => exact ⟨by trivial, q + 1, by omega, by simp, by simp only [allIn, HAL.out, Bool.true_and]; exact decide_eq_true hx.out⟩
                  case measure => simp [intOf]; omega
            · obtain rfl : q = 4 := by omega
              have hx : Hid (numsOk F (k + 1) = true) := by show numsOk F (k + 1) = true; simp [numsOk, HA.out, hal]
              clear hal
              go_wp2
              go_roundw
              case rel => exact ⟨by trivial, k + 1, by omega, by simp, hx.out⟩
              case measure => simp [intOf]; omega
        · obtain rfl : k = 4 := by omega
          have hm0 : Hid (mcode 4 L F = 0) := by show mcode 4 L F = 0; simp [mcode, hL4.out, ha]
          clear ha
          obtain ⟨w1, hw1⟩ : ∃ W, W = wr := ⟨_, rfl⟩
          subst hw1
          have s_0 := B_s.out.cell (j := 0) rfl
          have s_1 := B_s.out.cell (j := 1) rfl
          have s_2 := B_s.out.cell (j := 2) rfl
          have s_3 := B_s.out.cell (j := 3) rfl
          have s_f := B_s.out.frozen
          have s_z := B_s.out.lt
          go_wp2_with fail
          refine (sstokF a _).mono ?_
          rintro e v2 ⟨rfl, hb⟩
          clear s_0 s_1 s_2 s_3 s_f s_z
          replace B_s : Hid (Blk v2 (w.heap.size) #[.int .i64 a.i, .int .i64 a.q, .int .i64 a.u, .int .i64 a.v] 36) := by show Blk v2 (w.heap.size) _ _; exact Blk.old B_s.out hb
          replace B_r : Hid (Blk v2 (w.heap.size + 1) #[.int .i64 0, .int .i64 0, .int .i64 0, .int .i64 0, .int .i64 0] 38) := by show Blk v2 (w.heap.size + 1) _ _; exact Blk.old B_r.out hb
          replace HO : Hid (Below w.heap.size w v2) := box_step HO.out hb (Nat.le_refl _)
          have HF2 : Hid (∀ k, k < 4 → ∃ rb ro, v2.cell? ⟨b, off + k, none⟩ = some (.slice (some ⟨rb, ro, none⟩) 4 (rc k)) ∧ ∀ q, q < 4 → v2.cell? ⟨rb, ro + q, none⟩ = some (.int .i64 (F k q))) := fun k hk => let ⟨rb, ro, _, h1, h2⟩ := HF.out k hk; ⟨rb, ro, kold hb h1, fun q hq => kold hb (h2 q hq)⟩
          clear hb
          by_cases hs : scode a = 0
          · skip
            rw [hs]
            have hcd : Hid (pcd 4 L F a = hcode (prn F a) ∧ psk 4 L F a = hsk (prn F a)) := ⟨by simp [pcd, hm0.out, hs], by simp [psk, hm0.out, hs]⟩
            go_upto_region 20 with fail
            have bal : Below v2.heap.size v2 (v2.alloc (.cells #[.int .i64 0, .int .i64 0, .int .i64 0, .int .i64 0] 103)) := (Below.refl _ _).alloc (Nat.le_refl _) _
            have HF3 : Hid (∀ k, k < 4 → ∃ rb ro, rb < v2.heap.size ∧ b < v2.heap.size ∧ (v2.alloc (.cells #[.int .i64 0, .int .i64 0, .int .i64 0, .int .i64 0] 103)).cell? ⟨b, off + k, none⟩ = some (.slice (some ⟨rb, ro, none⟩) 4 (rc k)) ∧ ∀ q, q < 4 → (v2.alloc (.cells #[.int .i64 0, .int .i64 0, .int .i64 0, .int .i64 0] 103)).cell? ⟨rb, ro + q, none⟩ = some (.int .i64 (F k q))) := fun k hk => let ⟨rb, ro, h1, h2⟩ := HF2.out k hk; ⟨rb, ro, World.block_lt_of_cell? _ _ (h2 0 (by omega)), World.block_lt_of_cell? _ _ h1, kold bal h1, fun q hq => kold bal (h2 q hq)⟩
            obtain ⟨v3, hv⟩ : ∃ Xw, Xw = (v2.alloc (.cells #[.int .i64 0, .int .i64 0, .int .i64 0, .int .i64 0] 103)) := ⟨_, rfl⟩
            rw [← hv] at HF3 ⊢
            have ne_s_m : Hid (w.heap.size ≠ v2.heap.size) := Nat.ne_of_lt (Nat.lt_of_lt_of_le B_s.out.lt (by omega))
            have ne_r_m : Hid (w.heap.size + 1 ≠ v2.heap.size) := Nat.ne_of_lt (Nat.lt_of_lt_of_le B_r.out.lt (by omega))
            have B_m : Hid (Blk v3 (v2.heap.size) #[.int .i64 0, .int .i64 0, .int .i64 0, .int .i64 0] 103) := by show Blk v3 (v2.heap.size) _ _; rw [hv]; exact (Blk.new (by simp))
            have low_m : Hid (w.heap.size ≤ v2.heap.size) := by show w.heap.size ≤ v2.heap.size; have := HO.out.size; omega
            replace B_s : Hid (Blk v3 (w.heap.size) #[.int .i64 a.i, .int .i64 a.q, .int .i64 a.u, .int .i64 a.v] 36) := by show Blk v3 (w.heap.size) _ _; rw [hv]; exact (Blk.alloc B_s.out _)
            replace B_r : Hid (Blk v3 (w.heap.size + 1) #[.int .i64 0, .int .i64 0, .int .i64 0, .int .i64 0, .int .i64 0] 38) := by show Blk v3 (w.heap.size + 1) _ _; rw [hv]; exact (Blk.alloc B_r.out _)
            replace HO : Hid (Below w.heap.size w v3) := by show Below w.heap.size w v3; rw [hv]; exact (below_new HO.out _)
            clear hv
            have S0 : Seg v3 (v2.heap.size) 103 0 4 (fun i => .int .i64 (if i < 0 then prn F a i else 0)) := ⟨_, B_m.out, lt4 rfl rfl rfl rfl⟩
            have hmr : Hid (w.heap.size ≠ v2.heap.size ∧ w.heap.size + 1 ≠ v2.heap.size ∧ w.heap.size ≤ v2.heap.size) := ⟨ne_s_m.out, ne_r_m.out, low_m.out⟩
            obtain ⟨mb, hmb⟩ : ∃ x, x = v2.heap.size := ⟨_, rfl⟩
            rw [← hmb] at S0 hmr HF3 ⊢
            clear B_m low_m ne_s_m ne_r_m hmb bal
            clear HF HF2
            go_wp2_with fail
            go_loopw [10] (fun i wr => ∃ k : Nat, k ≤ 4 ∧ i = .int .i64 k ∧ evens (prn F a) k = true ∧ Blk wr (w.heap.size) #[.int .i64 a.i, .int .i64 a.q, .int .i64 a.u, .int .i64 a.v] 36 ∧ Blk wr (w.heap.size + 1) #[.int .i64 0, .int .i64 0, .int .i64 0, .int .i64 0, .int .i64 0] 38 ∧ Seg wr mb 103 0 4 (fun i => .int .i64 (if i < k then prn F a i else 0)) ∧ (∀ k, k < 4 → ∃ rb ro, rb < mb ∧ b < mb ∧ wr.cell? ⟨b, off + k, none⟩ = some (.slice (some ⟨rb, ro, none⟩) 4 (rc k)) ∧ ∀ q, q < 4 → wr.cell? ⟨rb, ro + q, none⟩ = some (.int .i64 (F k q))) ∧ Below w.heap.size w wr) (fun i _ => 4 - (intOf i).toNat)
            case atStart => exact ⟨0, Nat.zero_le _, rfl, rfl, B_s.out, B_r.out, S0, HF3.out, HO.out⟩
            case round =>
              clear B_s B_r HO S0 HF3
              obtain ⟨k, hk, rfl, hev, bs, br, sg, hf, ho⟩ := hrel
              have HE : Hid (evens (prn F a) k = true) := hev
              have HFk : Hid (∀ k, k < 4 → ∃ rb ro, rb < mb ∧ b < mb ∧ wr.cell? ⟨b, off + k, none⟩ = some (.slice (some ⟨rb, ro, none⟩) 4 (rc k)) ∧ ∀ q, q < 4 → wr.cell? ⟨rb, ro + q, none⟩ = some (.int .i64 (F k q))) := hf
              have HS : Hid (Seg wr mb 103 0 4 (fun i => .int .i64 (if i < k then prn F a i else 0))) := sg
              clear hev hf sg
              by_cases hkn : k < 4
              · skip
                have B_s : Hid (Blk wr (w.heap.size) #[.int .i64 a.i, .int .i64 a.q, .int .i64 a.u, .int .i64 a.v] 36) := bs
                have B_r : Hid (Blk wr (w.heap.size + 1) #[.int .i64 0, .int .i64 0, .int .i64 0, .int .i64 0, .int .i64 0] 38) := br
                have HO : Hid (Below w.heap.size w wr) := ho
                clear bs br ho
                obtain ⟨rb, ro, hrb, hbm, gk, gq⟩ := HFk.out k hkn
                have kk : ∀ x : Kept wr.heap.size wr, x.w.cell? ⟨b, off + k, none⟩ = some (.slice (some ⟨rb, ro, none⟩) 4 (rc k)) := fun x => kold x.h gk
                have kq0 : ∀ x : Kept wr.heap.size wr, x.w.cell? ⟨rb, ro, none⟩ = some (.int .i64 (F k 0)) := fun x => kold x.h (gq 0 (by omega))
                have kq1 : ∀ x : Kept wr.heap.size wr, x.w.cell? ⟨rb, ro + 1, none⟩ = some (.int .i64 (F k 1)) := fun x => kold x.h (gq 1 (by omega))
                have kq2 : ∀ x : Kept wr.heap.size wr, x.w.cell? ⟨rb, ro + 2, none⟩ = some (.int .i64 (F k 2)) := fun x => kold x.h (gq 2 (by omega))
                have kq3 : ∀ x : Kept wr.heap.size wr, x.w.cell? ⟨rb, ro + 3, none⟩ = some (.int .i64 (F k 3)) := fun x => kold x.h (gq 3 (by omega))
                clear gk gq hrb hbm
                go_upto_region 23 with fail
                have k_s_0 : ∀ x : Kept wr.heap.size wr, x.w.cell? ⟨w.heap.size, 0, none⟩ = some (.int .i64 a.i) := fun x => x.cell B_s.out.lt (B_s.out.cell (j := 0) rfl)
                have k_s_1 : ∀ x : Kept wr.heap.size wr, x.w.cell? ⟨w.heap.size, 1, none⟩ = some (.int .i64 a.q) := fun x => x.cell B_s.out.lt (B_s.out.cell (j := 1) rfl)
                have k_s_2 : ∀ x : Kept wr.heap.size wr, x.w.cell? ⟨w.heap.size, 2, none⟩ = some (.int .i64 a.u) := fun x => x.cell B_s.out.lt (B_s.out.cell (j := 2) rfl)
                have k_s_3 : ∀ x : Kept wr.heap.size wr, x.w.cell? ⟨w.heap.size, 3, none⟩ = some (.int .i64 a.v) := fun x => x.cell B_s.out.lt (B_s.out.cell (j := 3) rfl)
                refine wp_region_last' wr.heap.size (by kernel_rfl) rfl rfl (by kernel_rfl) (lastOk_of (by kernel_rfl)) ?_
                intro hne
                dsimp only [List.dropLast]
                repeat (go_big_quiet_step (fail))
                refine wpQuiet_nil ?_
                rintro u4 ⟨xk, hxk⟩
                have hR1 := xk.h
                rw [← hxk] at hR1
                clear hxk xk hne k_s_0 k_s_1 k_s_2 k_s_3 kk kq0 kq1 kq2 kq3
                replace HS : Hid (Seg u4 mb 103 0 4 (fun i => .int .i64 (if i < k then prn F a i else 0))) := HS.out.of_block (hR1.block _ HS.out.lt)
                replace HFk : Hid (∀ k, k < 4 → ∃ rb ro, rb < mb ∧ b < mb ∧ u4.cell? ⟨b, off + k, none⟩ = some (.slice (some ⟨rb, ro, none⟩) 4 (rc k)) ∧ ∀ q, q < 4 → u4.cell? ⟨rb, ro + q, none⟩ = some (.int .i64 (F k q))) := fun k hk => let ⟨rb, ro, h1, h2, h3, h4⟩ := HFk.out k hk; ⟨rb, ro, h1, h2, kold hR1 h3, fun q hq => kold hR1 (h4 q hq)⟩
                replace B_s : Hid (Blk u4 (w.heap.size) #[.int .i64 a.i, .int .i64 a.q, .int .i64 a.u, .int .i64 a.v] 36) := by show Blk u4 (w.heap.size) _ _; exact Blk.old B_s.out hR1
                replace B_r : Hid (Blk u4 (w.heap.size + 1) #[.int .i64 0, .int .i64 0, .int .i64 0, .int .i64 0, .int .i64 0] 38) := by show Blk u4 (w.heap.size + 1) _ _; exact Blk.old B_r.out hR1
                replace HO : Hid (Below w.heap.size w u4) := HO.out.trans (hR1.mono HO.out.size)
                clear hR1
                have hsum : wrap64 (wrap64 (wrap64 (wrap64 (F k 0 * a.i) + wrap64 (F k 1 * a.q)) + wrap64 (F k 2 * a.u)) + wrap64 (F k 3 * a.v)) = prn F a k := by simp only [prn, psn, snum, Int.zero_add, wrap_wrap]
                obtain ⟨f0, hf0⟩ : ∃ x, x = prn F a k := ⟨_, rfl⟩
                rw [← hf0] at hsum
                replace hf0 : Hid (f0 = prn F a k) := hf0
                have mc : u4.cell? ⟨mb, k, none⟩ = some (.int .i64 0) := by have h := HS.out.cell hkn; rw [Nat.zero_add] at h; rw [h]; simp
                have mfz := HS.out.frozen
                have mlt := HS.out.lt
                go_upto_region 24 with fail
                clear mc mfz mlt hsum
                obtain ⟨u9, hu9⟩ : ∃ W, W = u4.setCell ⟨mb, k, none⟩ (.int .i64 f0) := ⟨_, rfl⟩
                rw [← hu9]
                replace HS : Hid (Seg u9 mb 103 0 4 (fun i => .int .i64 (if i < (k + 1) then prn F a i else 0))) := by show Seg _ _ _ _ _ _; rw [hu9]; exact seg_step HS.out hkn hf0.out
                replace HFk : Hid (∀ k, k < 4 → ∃ rb ro, rb < mb ∧ b < mb ∧ u9.cell? ⟨b, off + k, none⟩ = some (.slice (some ⟨rb, ro, none⟩) 4 (rc k)) ∧ ∀ q, q < 4 → u9.cell? ⟨rb, ro + q, none⟩ = some (.int .i64 (F k q))) := fun k hk => let ⟨rb, ro, h1, h2, h3, h4⟩ := HFk.out k hk; ⟨rb, ro, h1, h2, by rw [hu9, World.cell?_setCell_far _ _ _ _ (by simp; omega)]; exact h3, fun q hq => by rw [hu9, World.cell?_setCell_far _ _ _ _ (by simp; omega)]; exact h4 q hq⟩
                replace B_s : Hid (Blk u9 (w.heap.size) #[.int .i64 a.i, .int .i64 a.q, .int .i64 a.u, .int .i64 a.v] 36) := by show Blk _ _ _ _; rw [hu9]; exact Blk.setOther B_s.out hmr.out.1 _
                replace B_r : Hid (Blk u9 (w.heap.size + 1) #[.int .i64 0, .int .i64 0, .int .i64 0, .int .i64 0, .int .i64 0] 38) := by show Blk _ _ _ _; rw [hu9]; exact Blk.setOther B_r.out hmr.out.2.1 _
                replace HO : Hid (Below w.heap.size w u9) := by show Below _ _ _; rw [hu9]; exact Below.setCell HO.out hmr.out.2.2 _
                have mc : u9.cell? ⟨mb, k, none⟩ = some (.int .i64 f0) := by have h := HS.out.cell hkn; rw [Nat.zero_add] at h; rw [h]; simp [hf0.out]
                clear hu9
                have ht := tmod_wrap f0
                by_cases hodd : f0.tmod 2 = 0
                · skip
                  have hev1 : Hid (evens (prn F a) (k + 1) = true) := by show evens _ (k + 1) = true; simp only [evens, HE.out, Bool.true_and]; exact decide_eq_true (by rw [← hf0.out]; exact hodd)
                  go_wp2
                  go_roundw
                  case rel => exact ⟨k + 1, by omega, by simp, hev1.out, B_s.out, B_r.out, HS.out, HFk.out, HO.out⟩
                  case measure => simp [intOf]; omega
                · skip
                  have hc1 : Hid (hcode (prn F a) = 1) := by show hcode _ = 1; simp [hcode, evens_bad (P := prn F a) hkn (by rw [← hf0.out]; exact hodd)]
                  have hs1 : Hid (hsk (prn F a) = ⟨0, 0, 0, 0⟩) := by show hsk _ = _; simp [hsk, hc1.out]
                  have r_0 := B_r.out.cell (j := 0) rfl
                  have r_1 := B_r.out.cell (j := 1) rfl
                  have r_2 := B_r.out.cell (j := 2) rfl
                  have r_3 := B_r.out.cell (j := 3) rfl
                  have r_4 := B_r.out.cell (j := 4) rfl
                  have r_f := B_r.out.frozen
                  have r_z := B_r.out.lt
                  go_wp2
                  refine bodyPost_ret (v := .agg #[.int .i64 1, .int .i64 0, .int .i64 0, .int .i64 0, .int .i64 0]) (by simp [results, Try.results23, go_sem, r_0, r_1, r_2, r_3, r_4, r_f, r_z] <;> (repeat' (first | rfl | apply And.intro))) rfl ⟨by rw [hcd.out.1, hcd.out.2, hc1.out, hs1.out], ?_⟩
                  exact (Below.setCell (Below.setCell (Below.setCell (Below.setCell (Below.setCell HO.out low_r.out _) low_r.out _) low_r.out _) low_r.out _) low_r.out _)
              · obtain rfl : k = 4 := by omega
                obtain ⟨w2, hw2⟩ : ∃ W, W = wr := ⟨_, rfl⟩
                subst hw2
                have S0 : Seg w2 mb 103 0 4 (fun i => .int .i64 (if i < 0 then hv (prn F a) i else prn F a i)) := HS.out.congr (lt4 rfl rfl rfl rfl)
                go_wp2_with fail
                go_loopw [11] (fun i wr => ∃ k : Nat, k ≤ 4 ∧ i = .int .i64 k ∧ allIn 2000000000 (hv (prn F a)) k = true ∧ Blk wr (w.heap.size + 1) #[.int .i64 0, .int .i64 0, .int .i64 0, .int .i64 0, .int .i64 0] 38 ∧ Seg wr mb 103 0 4 (fun i => .int .i64 (if i < k then hv (prn F a) i else prn F a i)) ∧ Below w.heap.size w wr) (fun i _ => 4 - (intOf i).toNat)
                case atStart => exact ⟨0, Nat.zero_le _, rfl, rfl, br, S0, ho⟩
                case round =>
                  clear bs br ho S0 HS HFk
                  obtain ⟨k, hk, rfl, hal, br, sg, ho⟩ := hrel
                  have HA : Hid (allIn 2000000000 (hv (prn F a)) k = true) := hal
                  have HS : Hid (Seg wr mb 103 0 4 (fun i => .int .i64 (if i < k then hv (prn F a) i else prn F a i))) := sg
                  have B_r : Hid (Blk wr (w.heap.size + 1) #[.int .i64 0, .int .i64 0, .int .i64 0, .int .i64 0, .int .i64 0] 38) := br
                  have HO : Hid (Below w.heap.size w wr) := ho
                  clear hal sg br ho
                  by_cases hkn : k < 4
                  · skip
                    obtain ⟨f0, hf0⟩ : ∃ x, x = prn F a k := ⟨_, rfl⟩
                    have mc : wr.cell? ⟨mb, k, none⟩ = some (.int .i64 f0) := by have h := HS.out.cell hkn; rw [Nat.zero_add] at h; rw [h, hf0]; simp
                    have hd := tdiv_wrap f0 (by rw [hf0]; exact (prn_in F a k).1) (by rw [hf0]; exact (prn_in F a k).2)
                    obtain ⟨h0, hh0⟩ : ∃ x, x = f0.tdiv 2 := ⟨_, rfl⟩
                    rw [← hh0] at hd
                    have hhv : Hid (h0 = hv (prn F a) k) := by show h0 = _; rw [hh0, hf0]; rfl
                    replace hf0 : Hid _ := hf0
                    rw [hh0] at hd
                    rw [← hh0] at hd
                    have hq2 : f0.tdiv 2 = h0 := hh0.symm
                    clear hh0
                    have mfz := HS.out.frozen
                    have mlt := HS.out.lt
                    go_upto_region 30 with fail
                    clear mc mfz mlt
                    obtain ⟨u9, hu9⟩ : ∃ W, W = wr.setCell ⟨mb, k, none⟩ (.int .i64 h0) := ⟨_, rfl⟩
                    rw [← hu9]
                    replace HS : Hid (Seg u9 mb 103 0 4 (fun i => .int .i64 (if i < (k + 1) then hv (prn F a) i else prn F a i))) := by show Seg _ _ _ _ _ _; rw [hu9]; exact seg_step2 HS.out hkn hhv.out
                    replace B_r : Hid (Blk u9 (w.heap.size + 1) #[.int .i64 0, .int .i64 0, .int .i64 0, .int .i64 0, .int .i64 0] 38) := by show Blk _ _ _ _; rw [hu9]; exact Blk.setOther B_r.out hmr.out.2.1 _
                    replace HO : Hid (Below w.heap.size w u9) := by show Below _ _ _; rw [hu9]; exact Below.setCell HO.out hmr.out.2.2 _
                    have mc : u9.cell? ⟨mb, k, none⟩ = some (.int .i64 h0) := by have h := HS.out.cell hkn; rw [Nat.zero_add] at h; rw [h]; simp [hhv.out]
                    clear hu9 hd hq2
                    go_wp2_with fail
                    refine (swide h0 _).mono ?_
                    rintro e v4 ⟨rfl, hb⟩
                    replace B_r : Hid (Blk v4 (w.heap.size + 1) #[.int .i64 0, .int .i64 0, .int .i64 0, .int .i64 0, .int .i64 0] 38) := by show Blk v4 (w.heap.size + 1) _ _; exact Blk.old B_r.out hb
                    replace HO : Hid (Below w.heap.size w v4) := box_step HO.out hb (Nat.le_refl _)
                    replace HS : Hid (Seg v4 mb 103 0 4 (fun i => .int .i64 (if i < (k + 1) then hv (prn F a) i else prn F a i))) := HS.out.of_block (hb.block _ HS.out.lt)
                    clear hb
                    clear mc
                    cases hw : wide h0 with
                    | true =>
                      have ha1 : Hid (allIn 2000000000 (hv (prn F a)) (k + 1) = true) := by show allIn _ _ (k + 1) = true; simp only [allIn, HA.out, Bool.true_and]; exact decide_eq_true (by rw [← hhv.out]; exact wide_t hw)
                      clear hw
                      go_wp2
                      go_roundw
                      case rel =>
                        (repeat apply Exists.intro)
                        exact ⟨⟨k + 1, by omega, by simp, ha1.out, B_r.out, HS.out, HO.out⟩, rfl⟩
                      case measure => simp [intOf]; omega
                    | false =>
                      have hbd : bcode 2000000000 4 (hv (prn F a)) = 3 := bcode_bad hkn (by rw [← hhv.out]; intro h; have : wide h0 = true := decide_eq_true h; rw [hw] at this; cases this)
                      have hc1 : Hid (hcode (prn F a) = 3) := by show hcode _ = 3; simp [hcode, HE.out, hbd]
                      have hs1 : Hid (hsk (prn F a) = ⟨0, 0, 0, 0⟩) := by show hsk _ = _; simp [hsk, hc1.out]
                      clear hw hbd
                      have r_0 := B_r.out.cell (j := 0) rfl
                      have r_1 := B_r.out.cell (j := 1) rfl
                      have r_2 := B_r.out.cell (j := 2) rfl
                      have r_3 := B_r.out.cell (j := 3) rfl
                      have r_4 := B_r.out.cell (j := 4) rfl
                      have r_f := B_r.out.frozen
                      have r_z := B_r.out.lt
                      go_wp2
                      refine bodyPost_ret (v := .agg #[.int .i64 3, .int .i64 0, .int .i64 0, .int .i64 0, .int .i64 0]) (by simp [results, Try.results23, go_sem, r_0, r_1, r_2, r_3, r_4, r_f, r_z] <;> (repeat' (first | rfl | apply And.intro))) rfl ⟨by rw [hcd.out.1, hcd.out.2, hc1.out, hs1.out], ?_⟩
                      exact (Below.setCell (Below.setCell (Below.setCell (Below.setCell (Below.setCell HO.out low_r.out _) low_r.out _) low_r.out _) low_r.out _) low_r.out _)
                  · obtain rfl : k = 4 := by omega
                    have HV : Hid (Seg wr mb 103 0 4 (fun i => .int .i64 (hv (prn F a) i))) := HS.out.congr (lt4 rfl rfl rfl rfl)
                    have mc0 := HV.out.cell (i := 0) (by omega)
                    simp only [Nat.zero_add, Nat.reduceAdd] at mc0
                    have mc1 := HV.out.cell (i := 1) (by omega)
                    simp only [Nat.zero_add, Nat.reduceAdd] at mc1
                    have mc2 := HV.out.cell (i := 2) (by omega)
                    simp only [Nat.zero_add, Nat.reduceAdd] at mc2
                    have mc3 := HV.out.cell (i := 3) (by omega)
                    simp only [Nat.zero_add, Nat.reduceAdd] at mc3
                    have hc1 : Hid (hcode (prn F a) = 0) := by show hcode _ = 0; simp [hcode, HE.out, bcode, HA.out]
                    have hs1 : Hid (hsk (prn F a) = ⟨hv (prn F a) 0, hv (prn F a) 1, hv (prn F a) 2, hv (prn F a) 3⟩) := by show hsk _ = _; simp [hsk, hc1.out]
                    have r_0 := B_r.out.cell (j := 0) rfl
                    have r_1 := B_r.out.cell (j := 1) rfl
                    have r_2 := B_r.out.cell (j := 2) rfl
                    have r_3 := B_r.out.cell (j := 3) rfl
                    have r_4 := B_r.out.cell (j := 4) rfl
                    have r_f := B_r.out.frozen
                    have r_z := B_r.out.lt
                    go_wp2
                    refine bodyPost_ret (v := .agg #[.int .i64 0, .int .i64 (hv (prn F a) 0), .int .i64 (hv (prn F a) 1), .int .i64 (hv (prn F a) 2), .int .i64 (hv (prn F a) 3)]) (by simp [results, Try.results23, go_sem, r_0, r_1, r_2, r_3, r_4, r_f, r_z] <;> (repeat' (first | rfl | apply And.intro))) rfl ⟨by rw [hcd.out.1, hcd.out.2, hc1.out, hs1.out], ?_⟩
                    exact (Below.setCell (Below.setCell (Below.setCell (Below.setCell (Below.setCell HO.out low_r.out _) low_r.out _) low_r.out _) low_r.out _) low_r.out _)
          · skip
            have hq : Hid (pcd 4 L F a = scode a ∧ psk 4 L F a = ⟨0, 0, 0, 0⟩) := ⟨by simp [pcd, hm0.out, hs], by simp [psk, hm0.out, hs]⟩
            obtain ⟨cz, hcz⟩ : ∃ c, c = scode a := ⟨_, rfl⟩
            rw [← hcz] at hs hq ⊢
            clear hcz
            have hpb : (cz != 0) = true := by simpa using hs
            have r_0 := B_r.out.cell (j := 0) rfl
            have r_1 := B_r.out.cell (j := 1) rfl
            have r_2 := B_r.out.cell (j := 2) rfl
            have r_3 := B_r.out.cell (j := 3) rfl
            have r_4 := B_r.out.cell (j := 4) rfl
            have r_f := B_r.out.frozen
            have r_z := B_r.out.lt
            go_wp2
            refine bodyPost_ret (v := .agg #[.int .i64 cz, .int .i64 0, .int .i64 0, .int .i64 0, .int .i64 0]) (by simp [results, Try.results23, go_sem, r_0, r_1, r_2, r_3, r_4, r_f, r_z] <;> (repeat' (first | rfl | apply And.intro))) rfl ⟨by rw [hq.out.1, hq.out.2], ?_⟩
            exact (Below.setCell (Below.setCell (Below.setCell (Below.setCell (Below.setCell HO.out low_r.out _) low_r.out _) low_r.out _) low_r.out _) low_r.out _)
theorem sps {w : World} {v : Value} {n : Nat} {L : Nat → Nat} {F : Rm.Mx} (a : Sk) (h : RdMat w v n L F) : Calls Try.prog 23 #[v, .agg #[.int .i64 a.i, .int .i64 a.q, .int .i64 a.u, .int .i64 a.v]] w fun e w' => e = .returned (.agg #[.int .i64 (pcd n L F a), .int .i64 ((psk n L F a).i), .int .i64 ((psk n L F a).q), .int .i64 ((psk n L F a).u), .int .i64 ((psk n L F a).v)]) ∧ Below w.heap.size w w' := by
  by_cases hn : n = 4
  · subst hn
    rcases h with ⟨ao, cap, rfl, h⟩ | ⟨b, off, cap, vs, rfl, hc⟩
    · cases h
    · have each : ∀ i : Nat, ∃ x : Option Addr × Nat, i < 4 → vs i = .slice x.1 (L i) x.2 ∧ ∀ q, q < L i → ∃ rb ro, x.1 = some ⟨rb, ro, none⟩ ∧ w.cell? ⟨rb, ro + q, none⟩ = some (.int .i64 (F i q)) := fun i => by
        by_cases hi : i < 4
        · rcases (hc i hi).2 with ⟨ao, cp, e, h0⟩ | ⟨b', o', c', e, g⟩
          · exact ⟨(ao, cp), fun _ => ⟨by rw [e, h0], fun q hq => by rw [h0] at hq; cases hq⟩⟩
          · exact ⟨(some ⟨b', o', none⟩, c'), fun _ => ⟨e, fun q hq => ⟨b', o', rfl, g q hq⟩⟩⟩
        · exact ⟨(none, 0), fun h => absurd h hi⟩
      exact sps_some b off cap (fun i => (Classical.choose (each i)).1) (fun i => (Classical.choose (each i)).2) L F a w fun i hi => by
        obtain ⟨e, g⟩ := Classical.choose_spec (each i) hi
        exact ⟨(hc i hi).1.trans (congrArg some e), g⟩
  · obtain ⟨ao, cap, rfl⟩ := mat_form h
    rw [show pcd n L F a = 1 by simp [pcd, mcode, hn], show psk n L F a = ⟨0, 0, 0, 0⟩ by simp [psk, mcode, hn]]
    exact sps_len ao n cap a w hn
end Go.Proofs.Ytloebnlmeplgbaa
