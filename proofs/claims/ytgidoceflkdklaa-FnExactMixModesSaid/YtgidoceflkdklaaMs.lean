/- Fields that do not know of one another: the specification's mix. -/
import Derived.Test.YtgidoceflkdklaaMy
import Derived.Deep.RegionHeld3
import Derived.Handy
namespace Go.Proofs.Ytgidoceflkdklaa
open Go.RowKit Fl
set_option linter.unusedVariables false
set_option linter.unusedSimpArgs false
set_option maxRecDepth 20000 in
set_option maxHeartbeats 6400000 in
theorem sMix_bad (b off n cap : Nat) (R : Nat → Value) (L : Nat → Nat) (w : World) (hn : n ≤ 1000000000000) (hc : ∀ i, i < n → w.cell? ⟨b, off + i, none⟩ = some (R i) ∧ ∃ ao c, R i = .slice ao (L i) c) (h : mf n L ≠ 0) :
    ZX 49 #[.slice (some ⟨b, off, none⟩) n cap] w (mf n L) 0 (fun _ => (none, none)) := by
  unfold ZX
  unfold mf at h ⊢
  by_cases h1 : 16 < n
  · rw [if_pos h1]
    clear hc h
    have h1I : (16 : Int) < n := by omega
    go_enter Try.func49, Try.ntmps49
    go_wp2
    refine bodyPost_ret (v := Zl 2 (.slice none 0 0)) (by simp [results, Try.results49, go_sem]) rfl ⟨_, fun _ _ => 0, rfl, Or.inl ⟨rfl, rfl⟩, fun i hi => by omega, ?_⟩
    go_grown
  rw [if_neg h1] at h ⊢
  by_cases h2 : n = 0
  · rw [if_pos h2]
    clear hc h
    subst h2
    go_enter Try.func49, Try.ntmps49
    go_wp2
    refine bodyPost_ret (v := Zl 1 (.slice none 0 0)) (by simp [results, Try.results49, go_sem]) rfl ⟨_, fun _ _ => 0, rfl, Or.inl ⟨rfl, rfl⟩, fun i hi => by omega, ?_⟩
    go_grown
  rw [if_neg h2] at h ⊢
  have HC : Hid (∀ i, i < n → w.cell? ⟨b, off + i, none⟩ = some (R i) ∧ ∃ ao c, R i = .slice ao (L i) c) := hc
  obtain ⟨g0, ao0, cp0, e0⟩ := hc 0 (by omega)
  rw [e0, Nat.add_zero] at g0
  clear hc e0
  have h2I : ¬ ((n : Int) = 0) := by omega
  have h1I : ¬ ((16 : Int) < n) := by omega
  obtain ⟨C, hC⟩ : ∃ C, C = mfF L 0 n := ⟨_, rfl⟩
  rw [← hC] at h ⊢
  have HE : Hid (C = mfF L 0 n) := hC
  have HC0 : Hid (C ≠ 0) := h
  clear hC h
  go_enter Try.func49, Try.ntmps49
  go_wp2_with fail
  go_loopw [3] (fun i wr => ∃ k : Nat, k ≤ n ∧ i = .int .i64 k ∧ Hid (C = mfF L k (n - k)) ∧ Hid (Below w.heap.size w wr ∧ Blk wr w.heap.size #[.int .i64 0, .slice none 0 0] 36 ∧ wr.heap.size = w.heap.size + 1)) (fun i _ => n - (intOf i).toNat)
  case atStart => exact ⟨0, Nat.zero_le _, rfl, HE, (Below.refl _ _).alloc (Nat.le_refl _) _, Blk.new rfl, by simp⟩
  case round =>
    obtain ⟨k, hk, rfl, HK, HB⟩ := hrel
    clear HE
    by_cases hkn : k < n
    · obtain ⟨g1, ao1, cp1, e1⟩ := HC.out k hkn
      rw [e1] at g1
      clear e1
      replace g1 := (HB.out.1.cell (World.block_lt_of_cell? _ _ g1)).trans g1
      have g2 := (HB.out.1.cell (World.block_lt_of_cell? _ _ g0)).trans g0
      have c0 := HB.out.2.1.cell (j := 0) (v := .int .i64 0) rfl
      have c1 := HB.out.2.1.cell (j := 1) (v := .slice none 0 0) rfl
      have f0 := HB.out.2.1.frozen 0
      have f1 := HB.out.2.1.frozen 1
      have hst : C = if Wv.wf (L k) = 0 then (if L k = L 0 then mfF L (k + 1) (n - (k + 1)) else 1) else Wv.wf (L k) := by rw [HK.out]; exact mfF_step hkn
      have A : Hid (∀ w, Calls Try.prog 58 #[.slice ao1 (L k) cp1] w fun e w' => e = .returned (.int .i64 (Wv.wf (L k))) ∧ w = w') := fun w => sFault_any ao1 (L k) cp1 w
      by_cases q1 : Wv.wf (L k) = 0
      · rw [if_pos q1] at hst
        rw [q1] at A
        by_cases q2 : L k = L 0
        · rw [if_pos q2] at hst
          have HN : Hid (C = mfF L (k + 1) (n - (k + 1))) := hst
          have q2I : ((L k : Int) != (L 0 : Int)) = false := by rw [q2]; simp
          clear hst q2 q1 HK HC
          go_wp2_with (first | (go_at_call 58; refine (A.out _).mono ?_; rintro e w1 ⟨rfl, rfl⟩))
          go_region
          go_wp2
          go_roundw
          case rel => exact ⟨k + 1, by omega, by simp, HN, HB.out.1.drew, HB.out.2.1.drew, HB.out.2.2⟩
          case measure => simp [intOf]; omega
        · rw [if_neg q2] at hst
          subst hst
          have q2I : ((L k : Int) != (L 0 : Int)) = true := by rw [bne_iff_ne]; omega
          clear q1 HK HC
          go_wp2_with (first | (go_at_call 58; refine (A.out _).mono ?_; rintro e w1 ⟨rfl, rfl⟩))
          go_region
          go_wp2
          refine bodyPost_ret (v := Zl 1 (.slice none 0 0)) (by simp [results, Try.results49, go_sem, c0, c1]) rfl ⟨_, fun _ _ => 0, rfl, Or.inl ⟨rfl, rfl⟩, fun i hi => by omega, (HB.out.1.drew.setCell (Nat.le_refl _) _).setCell (Nat.le_refl _) _⟩
      · rw [if_neg q1] at hst
        rw [← hst] at A q1
        have q1I : (C != 0) = true := by rw [bne_iff_ne]; exact q1
        clear hst q1 HK HC
        go_wp2_with (first | (go_at_call 58; refine (A.out _).mono ?_; rintro e w1 ⟨rfl, rfl⟩))
        refine bodyPost_ret (v := Zl C (.slice none 0 0)) (by simp [results, Try.results49, go_sem, c0, c1]) rfl ⟨_, fun _ _ => 0, rfl, Or.inl ⟨rfl, rfl⟩, fun i hi => by omega, (HB.out.1.setCell (Nat.le_refl _) _).setCell (Nat.le_refl _) _⟩
    · obtain rfl : k = n := by omega
      have e := HK.out
      rw [mfF_end] at e
      exact absurd e HC0.out
set_option maxRecDepth 20000 in
set_option maxHeartbeats 6400000 in
theorem sMix_good (b off n cap : Nat) (R : Nat → Value) (L : Nat → Nat) (F0 : Nat → Nat → Nat → Nat) (o : Nat → Nat → Option Nat × Option Nat) (w : World) (h : mf n L = 0)
    (hc : ∀ i, i < n → w.cell? ⟨b, off + i, none⟩ = some (R i) ∧ RdM w (R i) (L i) 2 (F0 i)) (hf : ∀ i, i < n → ∀ j, j < L i → Zc (F0 i j 0) (F0 i j 1) (o i j)) :
    ZX 49 #[.slice (some ⟨b, off, none⟩) n cap] w 0 (L 0) (mixC o n) := by
  unfold ZX
  obtain ⟨hn0, hn1, hall⟩ := mf_ok h
  have HC : Hid (∀ i, i < n → w.cell? ⟨b, off + i, none⟩ = some (R i) ∧ ∃ ao c, R i = .slice ao (L i) c) := fun i hi => ⟨(hc i hi).1, (hc i hi).2.form⟩
  have hle := Wv.wf_le (hall 0 hn0).1
  obtain ⟨N, hN⟩ : ∃ N, N = L 0 := ⟨_, rfl⟩
  have HLN : Hid (L 0 = N) := hN.symm
  rw [← hN]
  have HR : Hid (∀ i, i < n → ∃ bi oi ci, w.cell? ⟨b, off + i, none⟩ = some (.slice (some ⟨bi, oi, none⟩) N ci) ∧ (∀ j, j < N → ∀ l, l < 2 → w.cell? ⟨bi, oi + j * 2 + l, none⟩ = some (.float .f64 (F0 i j l))) ∧ ∀ j, j < N → Zc (F0 i j 0) (F0 i j 1) (o i j)) := by
    intro i hi
    have hLi : L i = N := by rw [hN]; exact (hall i hi).2
    obtain ⟨h1, h2⟩ := hc i hi
    have h3 := hf i hi
    rw [hLi] at h2 h3
    rcases h2 with ⟨_, _, _, e⟩ | ⟨bi, oi, ci, e, h4⟩
    · omega
    · exact ⟨bi, oi, ci, by rw [h1, e], h4, h3⟩
  obtain ⟨b0, o0, cp0, g0, -⟩ := HR.out 0 hn0
  rw [Nat.add_zero] at g0
  have hC : 0 = mfF L 0 n := by unfold mf at h; rw [if_neg (by omega), if_neg (by omega)] at h; exact h.symm
  obtain ⟨C, hC0⟩ : ∃ C : Int, C = 0 := ⟨_, rfl⟩
  have HE : Hid (C = mfF L 0 n) := by rw [hC0]; exact hC
  have HC0 : Hid (C = 0) := hC0
  have h2I : ¬ ((n : Int) = 0) := by omega
  have h1I : ¬ ((16 : Int) < n) := by omega
  have hall2 : Hid (∀ i, i < n → Wv.wf (L i) = 0 ∧ L i = L 0) := hall
  have HNL : Hid (1 ≤ L 0 ∧ L 0 ≤ 1024) := hle
  clear hc hf h hall hN hC hC0 hle
  have hst := st64
  go_enter Try.func49, Try.ntmps49
  go_wp2_with fail
  go_loopw [3] (fun i wr => ∃ k : Nat, k ≤ n ∧ i = .int .i64 k ∧ Hid (C = mfF L k (n - k)) ∧ Hid (Below w.heap.size w wr ∧ Blk wr w.heap.size #[.int .i64 0, .slice none 0 0] 36 ∧ wr.heap.size = w.heap.size + 1)) (fun i _ => n - (intOf i).toNat)
  case atStart => exact ⟨0, Nat.zero_le _, rfl, HE, (Below.refl _ _).alloc (Nat.le_refl _) _, Blk.new rfl, by simp⟩
  case round =>
    obtain ⟨k, hk, rfl, HK, HB⟩ := hrel
    clear HE
    by_cases hkn : k < n
    · obtain ⟨g1, ao1, cp1, e1⟩ := HC.out k hkn
      rw [e1] at g1
      clear e1
      replace g1 := (HB.out.1.cell (World.block_lt_of_cell? _ _ g1)).trans g1
      have g2 := (HB.out.1.cell (World.block_lt_of_cell? _ _ g0)).trans g0
      have c0 := HB.out.2.1.cell (j := 0) (v := .int .i64 0) rfl
      have c1 := HB.out.2.1.cell (j := 1) (v := .slice none 0 0) rfl
      have f0 := HB.out.2.1.frozen 0
      have f1 := HB.out.2.1.frozen 1
      have hst : C = if Wv.wf (L k) = 0 then (if L k = L 0 then mfF L (k + 1) (n - (k + 1)) else 1) else Wv.wf (L k) := by rw [HK.out]; exact mfF_step hkn
      have A : Hid (∀ w, Calls Try.prog 58 #[.slice ao1 (L k) cp1] w fun e w' => e = .returned (.int .i64 (Wv.wf (L k))) ∧ w = w') := fun w => sFault_any ao1 (L k) cp1 w
      by_cases q1 : Wv.wf (L k) = 0
      · rw [if_pos q1] at hst
        rw [q1] at A
        by_cases q2 : L k = L 0
        · rw [if_pos q2] at hst
          have HN : Hid (C = mfF L (k + 1) (n - (k + 1))) := hst
          have q2I : ((L k : Int) != (N : Int)) = false := by rw [q2, HLN.out]; simp
          clear hst q2 q1 HK HC
          go_wp2_with (first | (go_at_call 58; refine (A.out _).mono ?_; rintro e w1 ⟨rfl, rfl⟩))
          go_region
          go_wp2
          go_roundw
          case rel => exact ⟨k + 1, by omega, by simp, HN, HB.out.1.drew, HB.out.2.1.drew, HB.out.2.2⟩
          case measure => simp [intOf]; omega
        · exact absurd (hall2.out k hkn).2 q2
      · exact absurd (hall2.out k hkn).1 q1
    · obtain rfl : n = k := by omega
      have g2 := (HB.out.1.cell (World.block_lt_of_cell? _ _ g0)).trans g0
      have hle : 1 ≤ N ∧ N ≤ 1024 := by rw [← HLN.out]; exact HNL.out
      have hmk := make28 N (by omega)
      have hmkw := hmk wr
      clear HC g0 HK hall2 HNL hmk
      obtain ⟨wb, hwb⟩ : ∃ W, W = wr := ⟨_, rfl⟩
      rw [← hwb] at HB g2 hmkw ⊢
      clear hwb
      go_wp2_with fail
      obtain ⟨wc, hwc⟩ : ∃ W, W = wb.alloc (.cells (madeCells #[.float .f64 0, .float .f64 0] (N * 2)) 75) := ⟨_, rfl⟩
      have HX0 : Hid (Xm w wc o (fun _ _ => 0) N 0 0) := by
        rw [hwc]
        refine ⟨?_, fun i hi => ⟨⟨by decide, by rw [if_neg (by omega)]; rfl⟩, rfl⟩, HB.out.2.1.alloc _, HB.out.1.alloc (by have := HB.out.2.2; omega) _⟩
        have h := seg_made28 wb N
        rw [HB.out.2.2] at h
        exact h
      rw [HB.out.2.2, ← hwc]
      clear hmkw g2 hwc HB
      go_loopw [6] (fun i wr => ∃ (k : Nat) (F : Nat → Nat → Nat), k ≤ n ∧ i = .int .i64 k ∧ Hid (Xm w wr o F N k 0)) (fun i _ => n - (intOf i).toNat)
      case atStart => exact ⟨0, _, Nat.zero_le _, rfl, HX0⟩
      case round =>
        obtain ⟨k, F, hk, rfl, HX⟩ := hrel
        clear HX0
        by_cases hkn : k < n
        · obtain ⟨bi, oi, ci, e1, e2, e3⟩ := HR.out k hkn
          have HC1 : Hid (w.cell? ⟨b, off + k, none⟩ = some (.slice (some ⟨bi, oi, none⟩) N ci)) := e1
          have HC : Hid (∀ j, j < N → ∀ l, l < 2 → w.cell? ⟨bi, oi + j * 2 + l, none⟩ = some (.float .f64 (F0 k j l))) := e2
          have HZ : Hid (∀ j, j < N → Zc (F0 k j 0) (F0 k j 1) (o k j)) := e3
          clear e1 e2 e3 HR
          go_wp2_with fail
          obtain ⟨wo, hwo⟩ : ∃ W, W = wr := ⟨_, rfl⟩
          rw [← hwo] at HX ⊢
          clear hwo
          go_loopw [7] (fun i wr => ∃ (j : Nat) (F : Nat → Nat → Nat), j ≤ N ∧ i = .int .i64 j ∧ Hid (Xm w wr o F N k j)) (fun i _ => N - (intOf i).toNat)
          case atStart => exact ⟨0, F, Nat.zero_le _, rfl, HX⟩
          case round =>
            obtain ⟨j, G, hj, rfl, HY⟩ := hrel
            clear HX
            by_cases hjn : j < N
            · have hz := HZ.out j hjn
              have g1 : wr.cell? ⟨b, off + k, none⟩ = some (.slice (some ⟨bi, oi, none⟩) N ci) := (HY.out.below.cell (World.block_lt_of_cell? _ _ HC1.out)).trans HC1.out
              have p0 : wr.cell? ⟨bi, oi + j * 2, none⟩ = some (.float .f64 (F0 k j 0)) := (HY.out.below.cell (World.block_lt_of_cell? _ _ (HC.out j hjn 0 (by omega)))).trans (HC.out j hjn 0 (by omega))
              have p1 : wr.cell? ⟨bi, oi + j * 2 + 1, none⟩ = some (.float .f64 (F0 k j 1)) := (HY.out.below.cell (World.block_lt_of_cell? _ _ (HC.out j hjn 1 (by omega)))).trans (HC.out j hjn 1 (by omega))
              have r0 : wr.cell? ⟨w.heap.size + 1, j * 2, none⟩ = some (.float .f64 (G j 0)) := HY.out.seg.cell hjn (show 0 < 2 by omega)
              have hx : Hid (Fc (G j 0) (mixS o j k)) := by have := (HY.out.cls j hjn).1; rw [if_neg (by omega)] at this; exact this
              clear HC HZ HC1
              go_wp2_with fail
              go_region_law (first | (go_simp; go_at_call 73; refine (sNorm_any hz _).mono ?_; rintro e w1 ⟨y, rfl, hy, hb1⟩; obtain ⟨z, q, hzz, cz⟩ := flop .add (by simp) hx.out hy w1; have XW : Hid (Xm w (w1.drewN q) o G N k j) := HY.out.later ((((Below.refl _ _).drew).trans hb1).trans (below_drewN (Below.refl _ _) q |>.mono hb1.size)); have s0 : w1.cell? ⟨w.heap.size + 1, j * 2, none⟩ = some (.float .f64 (G j 0)) := (HY.out.later (((Below.refl _ _).drew).trans hb1)).seg.cell hjn (show 0 < 2 by omega); have s1 : (w1.drewN q).cell? ⟨w.heap.size + 1, j * 2, none⟩ = some (.float .f64 (G j 0)) := XW.out.seg.cell hjn (show 0 < 2 by omega); have s2 : (w1.drewN q).frozen? ⟨w.heap.size + 1, j * 2, none⟩ = false := XW.out.seg.frozen _))
              all_goals
                have HN : Hid (Xm w ((w1.drewN q).setCell ⟨w.heap.size + 1, j * 2, none⟩ (.float .f64 z)) o (up0 G j z) N k (j + 1)) := XW.out.step hjn cz
                clear XW HY s0 s1 s2 r0 p0 p1 g1 hb1 cz hy hx hz
                go_wp2
                refine ⟨⟨j + 1, _, by omega, by simp, HN⟩, by simp [intOf]; omega⟩
            · obtain rfl : j = N := by omega
              clear HC HZ HC1
              go_wp2
              go_roundw
              case rel => exact ⟨k + 1, G, by omega, by simp, HY.out.next⟩
              case measure => simp [intOf]; omega
        · obtain rfl : k = n := by omega
          have c0 := HX.out.res.cell (j := 0) (v := .int .i64 0) rfl
          have c1 := HX.out.res.cell (j := 1) (v := .slice none 0 0) rfl
          have f0 := HX.out.res.frozen 0
          have f1 := HX.out.res.frozen 1
          clear HR
          go_wp2
          refine bodyPost_ret (v := Zl 0 (.slice (some ⟨w.heap.size + 1, 0, none⟩) N N)) (by simp [results, Try.results49, go_sem, c0, c1]) rfl ⟨_, F, rfl, HX.out.told _ _ _⟩
end Go.Proofs.Ytgidoceflkdklaa
