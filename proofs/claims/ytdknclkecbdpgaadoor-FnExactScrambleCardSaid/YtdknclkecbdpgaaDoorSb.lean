/- Scrambled bytes, of both packages. -/
import Derived.Test.YtdknclkecbdpgaaDoorLs
import Derived.Test.YtdknclkecbdpgaaDoorSp
namespace Go.Proofs.YtdknclkecbdpgaaDoor
open Go.RowKit
set_option linter.unusedVariables false
set_option linter.unusedSimpArgs false
abbrev bF (f : Nat → Int) : Nat → Value := fun i => .int .u8 (f i)
/-- The bytes scrambled. -/
def scb (F : Nat → Int) (s : Int) (i : Nat) : Int := x8 (F i) (tn (sr s (8 * i)) 8)
def seedc (n : Nat) (s : Int) : Int := if 100000 < n then 2 else if s < 1 ∨ 32767 < s then 1 else 0
theorem seedc_0 {n : Nat} {s : Int} (h : seedc n s = 0) : n ≤ 100000 ∧ 1 ≤ s ∧ s ≤ 32767 := by
  unfold seedc at h
  split at h
  · omega
  · split at h <;> omega
theorem or_add {t u : Int} (h0 : 0 ≤ t) (h1 : t < 128) (hu : u = 0 ∨ u = 1) : bits .or .u8 (t * 2) u = t * 2 + u := by
  obtain ⟨x, rfl⟩ := Int.eq_ofNat_of_zero_le h0
  obtain ⟨y, rfl⟩ := Int.eq_ofNat_of_zero_le (show 0 ≤ u by omega)
  have h := u8_or_nat (x * 2) y (by omega) (by omega)
  rw [nat_join 1 (x * 2) y (by omega) (by omega)] at h
  simpa using h
set_option maxHeartbeats 800000 in
theorem iSeed_any (ao : Option Addr) (n cap : Nat) (hm : n ≤ 1000000000000) (s : Int) (w : World) : Calls Tryd.prog 105 #[.slice ao n cap, .int .i64 s] w fun e w' => e = .returned (er (seedc n s)) ∧ w' = w := by
  by_cases hn : 100000 < n
  · have hc : Hid (seedc n s = 2) := by show _ = _; unfold seedc; rw [if_pos hn]
    go_enter Tryd.func105, Tryd.ntmps105
    go_wp2_with fail
    refine Calls.mono (bytesFault_any _ _ _ hm _) ?_
    rintro e w0 ⟨rfl, rfl⟩
    rw [mb_many hn, er_c (by decide)]
    go_wp2
    go_ret
    exact ⟨by rw [hc.out, er_c (by decide)]; rfl, rfl⟩
  · have hn' : n ≤ 100000 := by omega
    by_cases h1 : s < 1
    · have hc : Hid (seedc n s = 1) := by show _ = _; unfold seedc; rw [if_neg hn, if_pos (Or.inl h1)]
      go_enter Tryd.func105, Tryd.ntmps105
      go_wp2_with fail
      refine Calls.mono (bytesFault_any _ _ _ hm _) ?_
      rintro e w0 ⟨rfl, rfl⟩
      rw [mb_ok hn', er_0]
      go_wp2
      go_ret
      exact ⟨by rw [hc.out, er_c (by decide)]; rfl, rfl⟩
    by_cases h2 : 32767 < s
    · have hc : Hid (seedc n s = 1) := by show _ = _; unfold seedc; rw [if_neg hn, if_pos (Or.inr h2)]
      go_enter Tryd.func105, Tryd.ntmps105
      go_wp2_with fail
      refine Calls.mono (bytesFault_any _ _ _ hm _) ?_
      rintro e w0 ⟨rfl, rfl⟩
      rw [mb_ok hn', er_0]
      go_wp2
      go_ret
      exact ⟨by rw [hc.out, er_c (by decide)]; rfl, rfl⟩
    have hc : Hid (seedc n s = 0) := by show _ = _; unfold seedc; rw [if_neg hn, if_neg (by omega)]
    go_enter Tryd.func105, Tryd.ntmps105
    go_wp2_with fail
    refine Calls.mono (bytesFault_any _ _ _ hm _) ?_
    rintro e w0 ⟨rfl, rfl⟩
    rw [mb_ok hn', er_0]
    go_wp2
    go_ret
    exact ⟨by rw [hc.out, er_0]; rfl, rfl⟩
set_option maxRecDepth 20000 in
set_option maxHeartbeats 3200000 in
theorem iScr_bad {w : World} {v : Value} {n : Nat} {F : Nat → Int} (h : RdB w v n F) (hm : n ≤ 1000000000000) (s : Int) (hc : seedc n s ≠ 0) (hE : Et w) :
    FB 5 52 #[v, .int .i64 s] w (seedc n s) 0 (bF F) := by
  unfold FB
  obtain ⟨ao, cap, rfl⟩ := h.form
  obtain ⟨c, hcc⟩ : ∃ c, c = seedc n s := ⟨_, rfl⟩
  rw [← hcc] at hc ⊢
  have H : Hid (RdB w (.slice ao n cap) n F) := h
  have HS : Hid (∀ W, RdB W (.slice ao n cap) n F → Calls Tryd.prog 105 #[.slice ao n cap, .int .i64 s] W fun e w' => e = .returned (er c) ∧ w' = W) := fun W hW => by rw [hcc]; exact iSeed_any _ _ _ hm _ _
  have HE : Hid (Et w) := hE
  have hcb : (c != 0) = true := by simp [hc]
  obtain ⟨w0, hw0⟩ : ∃ W, W = w.alloc (.cells #[.int .i64 0, .slice none 0 0] 47) := ⟨_, rfl⟩
  have H0 : Hid (Blk w0 w.heap.size #[.int .i64 0, .slice none 0 0] 47 ∧ Below w.heap.size w w0) := by rw [hw0]; exact ⟨Blk.new rfl, (Below.refl _ _).alloc (Nat.le_refl _) _⟩
  clear h hE hcc hc
  go_enter Tryd.func52, Tryd.ntmps52
  go_wp2_with fail
  rw [← hw0]
  refine Calls.mono (HS.out _ (H.out.later H0.out.2)) ?_
  rintro e wa ⟨rfl, rfl⟩
  clear hw0
  go_wp2_with fail
  refine Calls.mono (code_any c _ (HE.out.later H0.out.2)) ?_
  rintro e w1 ⟨rfl, hb⟩
  have H1 : Hid (Blk w1 w.heap.size #[.int .i64 0, .slice none 0 0] 47 ∧ Below w.heap.size w w1) := ⟨H0.out.1.later hb, H0.out.2.trans (hb.mono H0.out.2.size)⟩
  clear hb H0 HS HE
  have c0 := H1.out.1.cell (j := 0) (v := .int .i64 0) rfl
  have c1 := H1.out.1.cell (j := 1) (v := .slice none 0 0) rfl
  have f0 := H1.out.1.frozen 0
  have f1 := H1.out.1.frozen 1
  go_wp2
  refine bodyPost_ret (v := .agg #[.int .i64 c, .slice none 0 0]) (by simp [results, Tryd.results52, go_sem, c0, c1]) rfl ⟨_, rfl, Or.inl ⟨rfl, rfl⟩, (H1.out.2.setCell (by simp) _).setCell (by simp) _⟩
set_option maxRecDepth 20000 in
set_option maxHeartbeats 3200000 in
theorem sScr_bad {w : World} {v : Value} {n : Nat} {F : Nat → Int} (h : RdB w v n F) (hm : n ≤ 1000000000000) (s : Int) (hc0 : seedc n s ≠ 0) :
    FB 5 51 #[v, .int .i64 s] w (seedc n s) 0 (bF F) := by
  unfold FB
  obtain ⟨ao, cap, rfl⟩ := h.form
  clear h
  by_cases hn : 100000 < n
  · have hc : Hid (seedc n s = 2) := by show _ = _; unfold seedc; rw [if_pos hn]
    have hd : decide ((100000 : Int) < n) = true := by simp; omega
    clear hc0
    go_enter Tryd.func51, Tryd.ntmps51
    go_wp2_with fail
    refine Calls.mono (many_any _ _ _ _) ?_
    rintro e w1 ⟨rfl, rfl⟩
    rw [hd]
    go_wp2
    refine bodyPost_ret (v := .agg #[.int .i64 2, .slice none 0 0]) (by simp [results, Tryd.results51, go_sem]) rfl ⟨_, by rw [hc.out], Or.inl ⟨rfl, rfl⟩, by go_grown⟩
  have hd : decide ((100000 : Int) < n) = false := by simp; omega
  by_cases h1 : s < 1
  · have hc : Hid (seedc n s = 1) := by show _ = _; unfold seedc; rw [if_neg hn, if_pos (Or.inl h1)]
    clear hc0
    go_enter Tryd.func51, Tryd.ntmps51
    go_wp2_with fail
    refine Calls.mono (many_any _ _ _ _) ?_
    rintro e w1 ⟨rfl, rfl⟩
    rw [hd]
    go_wp2
    refine bodyPost_ret (v := .agg #[.int .i64 1, .slice none 0 0]) (by simp [results, Tryd.results51, go_sem]) rfl ⟨_, by rw [hc.out], Or.inl ⟨rfl, rfl⟩, by go_grown⟩
  by_cases h2 : 32767 < s
  · have hc : Hid (seedc n s = 1) := by show _ = _; unfold seedc; rw [if_neg hn, if_pos (Or.inr h2)]
    clear hc0
    go_enter Tryd.func51, Tryd.ntmps51
    go_wp2_with fail
    refine Calls.mono (many_any _ _ _ _) ?_
    rintro e w1 ⟨rfl, rfl⟩
    rw [hd]
    go_wp2
    refine bodyPost_ret (v := .agg #[.int .i64 1, .slice none 0 0]) (by simp [results, Tryd.results51, go_sem]) rfl ⟨_, by rw [hc.out], Or.inl ⟨rfl, rfl⟩, by go_grown⟩
  exact absurd (by unfold seedc; rw [if_neg hn, if_neg (by omega)]) hc0
set_option maxRecDepth 20000 in
set_option maxHeartbeats 3200000 in
theorem iScr_ok {w : World} {v : Value} {n : Nat} {F : Nat → Int} (h : RdB w v n F) (hF : By n F) (s : Int) (hc : seedc n s = 0) (hE : Et w) :
    FB 5 52 #[v, .int .i64 s] w 0 n (bF (scb F s)) := by
  unfold FB
  obtain ⟨hn, s0, s1⟩ := seedc_0 hc
  obtain ⟨ao, cap, rfl⟩ := h.form
  have H : Hid (RdB w (.slice ao n cap) n F) := h
  have HF : Hid (By n F) := hF
  have HS : Hid (∀ W, RdB W (.slice ao n cap) n F → Calls Tryd.prog 105 #[.slice ao n cap, .int .i64 s] W fun e w' => e = .returned (er 0) ∧ w' = W) := fun W hW => by rw [← hc]; exact iSeed_any _ _ _ (by omega) _ _
  have HE : Hid (Et w) := hE
  have HR : Hid (∀ k, 0 ≤ sr s k ∧ sr s k < 32768) := sr_bd (by omega) (by omega)
  have hmk := run_make_row' (P := Tryd.prog) 22 5 (.int .u8 0) 1 Tryd.underlying22 info5 rfl .i64 .i64 n (by omega) (by omega)
  obtain ⟨w0, hw0⟩ : ∃ W, W = w.alloc (.cells #[.int .i64 0, .slice none 0 0] 47) := ⟨_, rfl⟩
  have H0 : Hid (Blk w0 w.heap.size #[.int .i64 0, .slice none 0 0] 47 ∧ Below w.heap.size w w0) := by rw [hw0]; exact ⟨Blk.new rfl, (Below.refl _ _).alloc (Nat.le_refl _) _⟩
  clear h hE hc hF
  go_enter Tryd.func52, Tryd.ntmps52
  go_wp2_with fail
  rw [← hw0]
  refine Calls.mono (HS.out _ (H.out.later H0.out.2)) ?_
  rintro e wa ⟨rfl, rfl⟩
  clear hw0
  go_wp2_with fail
  refine Calls.mono (code_any 0 _ (HE.out.later H0.out.2)) ?_
  rintro e w1 ⟨rfl, hb⟩
  have H1 : Hid (Blk w1 w.heap.size #[.int .i64 0, .slice none 0 0] 47 ∧ Below w.heap.size w w1) := ⟨H0.out.1.later hb, H0.out.2.trans (hb.mono H0.out.2.size)⟩
  clear hb H0 HS HE
  go_wp2_with fail
  clear hmk
  have HM0 : Hid (Seg (w1.alloc (.cells (madeCells #[.int .u8 0] n) 5)) w1.heap.size 5 0 n (fun j => if j < 0 then .int .u8 (scb F s j) else .int .u8 0) ∧ Blk (w1.alloc (.cells (madeCells #[.int .u8 0] n) 5)) w.heap.size #[.int .i64 0, .slice none 0 0] 47 ∧ Below w.heap.size w (w1.alloc (.cells (madeCells #[.int .u8 0] n) 5)) ∧ w.heap.size < w1.heap.size) := ⟨(seg_made _ _ _ _).congr fun j _ => by simp, H1.out.1.alloc _, H1.out.2.alloc H1.out.2.size _, H1.out.1.lt⟩
  have hz : w.heap.size < w1.heap.size := HM0.out.2.2.2
  clear H1
  go_loopw [7, 26] (fun r i wr => ∃ k : Nat, k ≤ n ∧ i = .int .i64 k ∧ r = .int .i64 (sr s (8 * k)) ∧ Hid (Seg wr w1.heap.size 5 0 n (fun j => if j < k then .int .u8 (scb F s j) else .int .u8 0) ∧ Blk wr w.heap.size #[.int .i64 0, .slice none 0 0] 47 ∧ Below w.heap.size w wr)) (fun _ i _ => n - (intOf i).toNat)
  case atStart => exact ⟨0, Nat.zero_le _, rfl, rfl, HM0.out.1, HM0.out.2.1, HM0.out.2.2.1⟩
  case round =>
    obtain ⟨k, hk, rfl, rfl, HL⟩ := hrel
    clear HM0
    by_cases hkn : k < n
    · rcases H.out with ⟨ao', cap', e1, e2⟩ | ⟨b, off, cap', e1, hcell⟩
      · omega
      cases e1
      have g1 : wr.cell? ⟨b, off + k, none⟩ = some (.int .u8 (F k)) := (HL.out.2.2.cell (World.block_lt_of_cell? _ _ (hcell k hkn))).trans (hcell k hkn)
      have g2 : wr.cell? ⟨w1.heap.size, k, none⟩ = some (.int .u8 0) := by simpa using HL.out.1.cell hkn
      have g3 : wr.frozen? ⟨w1.heap.size, k, none⟩ = false := HL.out.1.frozen k
      obtain ⟨f0, f1⟩ := HF.out k hkn
      have HV : Hid (scb F s k = x8 (F k) (tn (sr s (8 * k)) 8)) := rfl
      obtain ⟨f, hf⟩ : ∃ f, f = F k := ⟨_, rfl⟩
      rw [← hf] at g1 f0 f1 HV
      clear hf hcell
      go_wp2_with fail
      go_loopw [7, 10, 31] (fun r t i wr' => ∃ j : Nat, j ≤ 8 ∧ i = .int .i64 j ∧ r = .int .i64 (sr s (8 * k + j)) ∧ t = .int .u8 (tn (sr s (8 * k)) j) ∧ wr' = wr) (fun _ _ i _ => 8 - (intOf i).toNat)
      case atStart => exact ⟨0, Nat.zero_le _, rfl, rfl, rfl, rfl⟩
      case round =>
        obtain ⟨j, hj, rfl, rfl, rfl, rfl⟩ := hrel
        by_cases hj8 : j < 8
        · obtain ⟨r0, r1⟩ := HR.out (8 * k + j)
          have hR : sr s (8 * k + (j + 1)) = sr s (8 * k + j) / 2 + ul (sr s (8 * k + j)) * 16384 := rfl
          have hT : tn (sr s (8 * k)) (j + 1) = tn (sr s (8 * k)) j * 2 + ul (sr (sr s (8 * k)) j) := rfl
          rw [sr_add] at hT
          have tb := tn_bd (sr s (8 * k)) j
          have hp : (2 : Int) ^ j ≤ 128 := by
            have h2 : 2 ^ j ≤ 2 ^ 7 := Nat.pow_le_pow_right (by omega) (by omega)
            have e : ((2 ^ j : Nat) : Int) = 2 ^ j := by simp
            omega
          have hu := ul_01 (sr s (8 * k + j))
          have hb := ul_bits r0 (show sr s (8 * k + j) < 65536 by omega)
          obtain ⟨t0, t1⟩ : 0 ≤ tn (sr s (8 * k)) j ∧ tn (sr s (8 * k)) j < 128 := by omega
          clear tb hp
          obtain ⟨r, hr⟩ : ∃ r, r = sr s (8 * k + j) := ⟨_, rfl⟩
          obtain ⟨t, ht⟩ : ∃ t, t = tn (sr s (8 * k)) j := ⟨_, rfl⟩
          obtain ⟨u, hue⟩ : ∃ u, u = ul r := ⟨_, rfl⟩
          rw [← hr] at r0 r1 hR hT hu hb ⊢
          rw [← ht] at t0 t1 hT ⊢
          rw [← hue] at hR hT hu hb
          have HR2 : Hid (sr s (8 * k + (j + 1)) = r / 2 + u * 16384) := hR
          have HT2 : Hid (tn (sr s (8 * k)) (j + 1) = t * 2 + u) := hT
          have ho := or_add t0 t1 hu
          have u0 : 0 ≤ u := by omega
          have u1 : u < 2 := by omega
          clear hr ht hue hR hT hu
          go_wp2
          go_roundw
          case rel => exact ⟨j + 1, by omega, by simp, by rw [HR2.out], by rw [HT2.out], by first | rfl | trivial⟩
          case measure => simp [intOf]; omega
        · obtain rfl : j = 8 := by omega
          go_wp2
          go_roundw
          case rel =>
            obtain ⟨hs, hb, hB⟩ := HL.out
            refine ⟨k + 1, by omega, by simp, by rw [show 8 * (k + 1) = 8 * k + 8 by omega], ?_, hb.setOther (by simp; omega) _, hB.setCell (by simp; omega) _⟩
            have := hs.set k hkn (.int .u8 (x8 f (tn (sr s (8 * k)) 8)))
            rw [Nat.zero_add] at this
            refine this.congr fun i hi => ?_
            by_cases e : i = k
            · subst e; simp [HV.out]
            · by_cases e2 : i < k
              · simp [e, e2, Nat.lt_succ_of_lt e2]
              · simp [e, e2]; intro h; omega
          case measure => simp [intOf]; omega
    · obtain rfl : k = n := by omega
      have c0 := HL.out.2.1.cell (j := 0) (v := .int .i64 0) rfl
      have c1 := HL.out.2.1.cell (j := 1) (v := .slice none 0 0) rfl
      have f0 := HL.out.2.1.frozen 0
      have f1 := HL.out.2.1.frozen 1
      go_wp2
      refine bodyPost_ret (v := .agg #[.int .i64 0, .slice (some ⟨w1.heap.size, 0, none⟩) k k]) (by simp [results, Tryd.results52, go_sem, c0, c1]) rfl ⟨_, rfl, Or.inr ⟨_, _, rfl, by omega, by simp; exact HL.out.1.lt, ?_⟩, (HL.out.2.2.setCell (by simp) _).setCell (by simp) _⟩
      exact ((HL.out.1.congr fun i hi => by simp [hi]).setOther (by simp; omega) _).setOther (by simp; omega) _
end Go.Proofs.YtdknclkecbdpgaaDoor
