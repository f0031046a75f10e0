/- Scrambled bytes, of the specification. -/
import Derived.Test.YtdknclkecbdpgaaDoorSb
namespace Go.Proofs.YtdknclkecbdpgaaDoor
open Go.RowKit
set_option linter.unusedVariables false
set_option linter.unusedSimpArgs false
theorem xb_bd (s b : Int) (k : Nat) : 0 ≤ xb s b k ∧ xb s b k < 256 := x8_bd _ _
set_option maxRecDepth 20000 in
set_option maxHeartbeats 3200000 in
theorem sScr_ok {w : World} {v : Value} {n : Nat} {F : Nat → Int} (h : RdB w v n F) (hF : By n F) (s : Int) (hc : seedc n s = 0) :
    FB 5 51 #[v, .int .i64 s] w 0 n (bF (scb F s)) := by
  unfold FB
  obtain ⟨hn, s0, s1⟩ := seedc_0 hc
  obtain ⟨ao, cap, rfl⟩ := h.form
  have H : Hid (RdB w (.slice ao n cap) n F) := h
  have HF : Hid (By n F) := hF
  have HR : Hid (∀ k, 0 ≤ sr s k ∧ sr s k < 32768) := sr_bd (by omega) (by omega)
  have hd : decide ((100000 : Int) < n) = false := by simp; omega
  obtain ⟨w0, hw0⟩ : ∃ W, W = w.alloc (.cells #[.int .i64 0, .slice none 0 0] 47) := ⟨_, rfl⟩
  have H0 : Hid (Blk w0 w.heap.size #[.int .i64 0, .slice none 0 0] 47 ∧ Below w.heap.size w w0) := by rw [hw0]; exact ⟨Blk.new rfl, (Below.refl _ _).alloc (Nat.le_refl _) _⟩
  clear h hc hF
  go_enter Tryd.func51, Tryd.ntmps51
  go_wp2_with fail
  rw [← hw0]
  refine Calls.mono (many_any _ _ _ _) ?_
  rintro e w1 ⟨rfl, rfl⟩
  rw [hd]
  have H1 : Hid (Blk w1 w.heap.size #[.int .i64 0, .slice none 0 0] 47 ∧ Below w.heap.size w w1) := H0.out
  clear hw0 H0
  go_wp2_with fail
  have HL0 : Hid (Ls w (w1.alloc (.cells #[] 5)) w1.heap.size 5 (.slice (some ⟨w1.heap.size, 0, none⟩) 0 0) 0 (bF (scb F s)) #[.int .i64 0, .slice none 0 0] 47) := Ls.start _ _ H1.out.2 H1.out.1 _
  clear H1
  go_loopw [5, 6, 7] (fun v r i wr => ∃ k : Nat, k ≤ n ∧ i = .int .i64 k ∧ r = .int .i64 (sr s (8 * k)) ∧ Hid (Ls w wr w1.heap.size 5 v k (bF (scb F s)) #[.int .i64 0, .slice none 0 0] 47)) (fun _ _ i _ => n - (intOf i).toNat)
  case atStart => exact ⟨0, Nat.zero_le _, rfl, rfl, HL0⟩
  case round =>
    obtain ⟨k, hk, rfl, rfl, HL⟩ := hrel
    clear HL0
    by_cases hkn : k < n
    · rcases H.out with ⟨ao', cap', e1, e2⟩ | ⟨b, off, cap', e1, hcell⟩
      · omega
      cases e1
      have g1 : wr.cell? ⟨b, off + k, none⟩ = some (.int .u8 (F k)) := (HL.out.below.cell (World.block_lt_of_cell? _ _ (hcell k hkn))).trans (hcell k hkn)
      obtain ⟨f0, f1⟩ := HF.out k hkn
      have HV : Hid (scb F s k = xb (sr s (8 * k)) (F k) 8) := by show _ = _; rw [xb_end]; rfl
      obtain ⟨f, hf⟩ : ∃ f, f = F k := ⟨_, rfl⟩
      rw [← hf] at g1 f0 f1 HV
      have HX0 : Hid (xb (sr s (8 * k)) f 0 = f) := xb_zero f0 f1
      have HXS : Hid (∀ j, j < 8 → ul (sr (sr s (8 * k)) j) = 0 → xb (sr s (8 * k)) f (j + 1) = xb (sr s (8 * k)) f j) := fun j hj h => xb_same hj h
      have HXT : Hid (∀ j, j < 8 → ul (sr (sr s (8 * k)) j) = 1 → x8 (xb (sr s (8 * k)) f j) (2 ^ (8 - (j + 1)) : Nat) = xb (sr s (8 * k)) f (j + 1)) := fun j hj h => xb_turn f0 f1 hj h
      clear hf hcell
      go_wp2_with fail
      go_loopw [6, 8, 9] (fun r c i wr' => ∃ j : Nat, j ≤ 8 ∧ i = .int .i64 ((j : Int) + 1) ∧ r = .int .i64 (sr s (8 * k + j)) ∧ c = .int .u8 (xb (sr s (8 * k)) f j) ∧ wr' = wr) (fun _ _ i _ => 9 - (intOf i).toNat)
      case atStart => exact ⟨0, Nat.zero_le _, rfl, rfl, by rw [HX0.out], rfl⟩
      case round =>
        obtain ⟨j, hj, rfl, rfl, rfl, rfl⟩ := hrel
        by_cases hj8 : j < 8
        · obtain ⟨r0, r1⟩ := HR.out (8 * k + j)
          obtain ⟨b0, b1⟩ := xb_bd (sr s (8 * k)) f j
          have hR : sr s (8 * k + (j + 1)) = sr s (8 * k + j) / 2 + ul (sr s (8 * k + j)) * 16384 := rfl
          have hS := HXS.out j hj8
          have hT := HXT.out j hj8
          rw [sr_add] at hS hT
          have hu := ul_01 (sr s (8 * k + j))
          obtain ⟨r, hr⟩ : ∃ r, r = sr s (8 * k + j) := ⟨_, rfl⟩
          obtain ⟨c, hcc⟩ : ∃ c, c = xb (sr s (8 * k)) f j := ⟨_, rfl⟩
          obtain ⟨d, hdd⟩ : ∃ d, d = xb (sr s (8 * k)) f (j + 1) := ⟨_, rfl⟩
          rw [← hr] at r0 r1 hR hS hT hu ⊢
          rw [← hcc] at b0 b1 hS hT ⊢
          rw [← hdd] at hS hT
          have HD : Hid (d = xb (sr s (8 * k)) f (j + 1)) := hdd
          clear hr hcc hdd
          rcases hu with hu | hu
          · have HR2 : Hid (sr s (8 * k + (j + 1)) = r / 2) := by show _ = _; rw [hR, hu]; omega
            have HS2 : Hid (d = c) := hS hu
            have t1 : (r + r / 2).tmod 2 = 0 := by rw [Int.tmod_eq_emod_of_nonneg (by omega)]; exact hu
            have t2 : (r + r / 2) % 2 = 0 := hu
            clear hR hS hT hu
            go_wp2
            go_roundw
            case rel => exact ⟨j + 1, by omega, by simp, by rw [HR2.out], by rw [← HD.out, HS2.out], by first | rfl | trivial⟩
            case measure => simp [intOf]; omega
          · have HR2 : Hid (sr s (8 * k + (j + 1)) = r / 2 + 16384) := by show _ = _; rw [hR, hu]; omega
            have hT2 := hT hu
            have t1 : (r + r / 2).tmod 2 = 1 := by rw [Int.tmod_eq_emod_of_nonneg (by omega)]; exact hu
            have t2 : (r + r / 2) % 2 = 1 := hu
            clear hR hS hT hu
            have h8 : j = 0 ∨ j = 1 ∨ j = 2 ∨ j = 3 ∨ j = 4 ∨ j = 5 ∨ j = 6 ∨ j = 7 := by omega
            rcases h8 with rfl | rfl | rfl | rfl | rfl | rfl | rfl | rfl
            all_goals
              simp at hT2
              go_wp2
              go_roundw
              case rel => exact ⟨_, by omega, rfl, by rw [HR2.out], by rw [← HD.out, ← hT2], by first | rfl | trivial⟩
              case measure => simp [intOf]
        · obtain rfl : j = 8 := by omega
          have HU : Hid (vl (bF (scb F s)) k ++ [Value.int IntKind.u8 (xb (sr s (8 * k)) f 8)] = vl (bF (scb F s)) k ++ [bF (scb F s) k]) := by show _ = _ ++ [Value.int IntKind.u8 (scb F s k)]; rw [HV.out]
          go_wp2_with (first | (at_builtin; refine push_law rfl (.tmp 53) (.tmp 55) 22 rfl 5 (.int .u8 0) 1 1 Tryd.underlying22 info5 rfl (by decide) (by decide) _ [_] rfl (by simp [Value.oneCell']) w1.heap.size u5 k _ rfl HL.out.own 1 rfl (by omega) HL.out.lt ?_; intro v1 w3 own3 grow3 nn3))
          have HN : Hid (Ls w w3 w1.heap.size 5 v1 (k + 1) (bF (scb F s)) #[.int .i64 0, .slice none 0 0] 47) := HL.out.push' own3 HU.out grow3
          clear own3 grow3 nn3 HL
          go_wp2
          go_roundw
          case rel => exact ⟨k + 1, by omega, by simp, by rw [show 8 * (k + 1) = 8 * k + 8 by omega], HN⟩
          case measure => simp [intOf]; omega
    · obtain rfl : k = n := by omega
      have c0 := HL.out.box.cell (j := 0) (v := .int .i64 0) rfl
      have c1 := HL.out.box.cell (j := 1) (v := .slice none 0 0) rfl
      have f0 := HL.out.box.frozen 0
      have f1 := HL.out.box.frozen 1
      obtain ⟨ao2, cap2, rfl⟩ := HL.out.form
      go_wp2
      refine bodyPost_ret (v := .agg #[.int .i64 0, .slice ao2 k cap2]) (by simp [results, Tryd.results51, go_sem, c0, c1]) rfl ⟨_, rfl, ?_⟩
      exact HL.out.told _ _
end Go.Proofs.YtdknclkecbdpgaaDoor
