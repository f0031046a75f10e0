/- The sum of bytes, of both packages. -/
import Derived.Test.YtdknclkecbdpgaaDoorCd
namespace Go.Proofs.YtdknclkecbdpgaaDoor
open Go.RowKit
set_option linter.unusedVariables false
set_option linter.unusedSimpArgs false
/-- Bytes to be read. -/
abbrev RdB (w : World) (v : Value) (n : Nat) (F : Nat → Int) : Prop := RdG w v n (fun i => .int .u8 (F i))
set_option maxRecDepth 20000 in
set_option maxHeartbeats 3200000 in
theorem iSum_ok {w : World} {b off n cap : Nat} {F : Nat → Int} (hc : ∀ i, i < n → w.cell? ⟨b, off + i, none⟩ = some (.int .u8 (F i))) (hF : By n F) (hn : n ≤ 100000) (hE : Et w) :
    Calls Tryd.prog 27 #[.slice (some ⟨b, off, none⟩) n cap] w fun e w' => e = .returned (.int .i64 (cs F n)) ∧ Below w.heap.size w w' := by
  have HC : Hid (∀ i, i < n → w.cell? ⟨b, off + i, none⟩ = some (.int .u8 (F i))) := hc
  have HF : Hid (By n F) := hF
  have HE : Hid (Et w) := hE
  have hn2 : (n : Int) ≤ 100000 := by omega
  clear hc hF hE
  go_enter Tryd.func27, Tryd.ntmps27
  go_wp2_with fail
  refine Calls.mono (bytesFault_any _ _ _ (by omega) _) ?_
  rintro e w0 ⟨rfl, hw0⟩
  subst hw0
  rw [mb_ok hn]
  go_wp2_with fail
  refine Calls.mono (code_any 0 _ HE.out) ?_
  rintro e w1 ⟨rfl, hb⟩
  have HB : Hid (Below w0.heap.size w0 w1) := hb
  clear hb
  replace HC : Hid (∀ i, i < n → w1.cell? ⟨b, off + i, none⟩ = some (.int .u8 (F i))) := fun i hi => (HB.out.cell (World.block_lt_of_cell? _ _ (HC.out i hi))).trans (HC.out i hi)
  go_wp2_with fail
  go_loopw [4, 15] (fun s i wr => ∃ k : Nat, k ≤ n ∧ i = .int .i64 k ∧ s = .int .i64 (cs F k) ∧ wr = w1) (fun _ i _ => n - (intOf i).toNat)
  case atStart => exact ⟨0, Nat.zero_le _, rfl, rfl, rfl⟩
  case round =>
    obtain ⟨k, hk, rfl, rfl, rfl⟩ := hrel
    by_cases hkn : k < n
    · have g1 := HC.out k hkn
      obtain ⟨f0, f1⟩ := HF.out k hkn
      obtain ⟨c0, c1⟩ := cs_bd HF.out k (by omega)
      have hS : cs F (k + 1) = it (xo (cs F k) (F k * 256)) 8 := rfl
      have hX := xo_bd c0 c1 (show 0 ≤ F k * 256 by omega) (by omega)
      have HI : Hid (∀ j, 0 ≤ it (xo (cs F k) (F k * 256)) j ∧ it (xo (cs F k) (F k * 256)) j < 65536) := it_bd hX.1 hX.2
      obtain ⟨f, hf⟩ : ∃ f, f = F k := ⟨_, rfl⟩
      obtain ⟨c, hcs⟩ : ∃ c, c = cs F k := ⟨_, rfl⟩
      rw [← hf] at g1 f0 f1 hS hX HI
      rw [← hcs] at c0 c1 hS hX HI ⊢
      have HS : Hid (cs F (k + 1) = it (xo c (f * 256)) 8) := hS
      clear hf hcs hS hX
      go_wp2_with fail
      go_loopw [4, 24] (fun s i wr' => ∃ j : Nat, j ≤ 8 ∧ i = .int .i64 j ∧ s = .int .i64 (it (xo c (f * 256)) j) ∧ wr' = wr) (fun _ i _ => 8 - (intOf i).toNat)
      case atStart => exact ⟨0, Nat.zero_le _, rfl, rfl, rfl⟩
      case round =>
        obtain ⟨j, hj, rfl, rfl, rfl⟩ := hrel
        by_cases hj8 : j < 8
        · obtain ⟨i0, i1⟩ := HI.out j
          have hT : it (xo c (f * 256)) (j + 1) = st (it (xo c (f * 256)) j) := rfl
          obtain ⟨x, hx⟩ : ∃ x, x = it (xo c (f * 256)) j := ⟨_, rfl⟩
          rw [← hx] at i0 i1 hT ⊢
          clear hx
          by_cases hg : 65536 ≤ 2 * x
          · have hT2 : Hid (it (xo c (f * 256)) (j + 1) = xo (2 * x - 65536) 4129) := by show _ = _; rw [hT]; simp [st, hg]
            clear hT
            go_wp2
            go_roundw
            case rel => exact ⟨j + 1, by omega, by simp, by rw [hT2.out]; simp; congr 1; omega, by first | rfl | trivial⟩
            case measure => simp [intOf]; omega
          · have hT2 : Hid (it (xo c (f * 256)) (j + 1) = 2 * x) := by show _ = _; rw [hT]; simp [st, hg]
            clear hT
            go_wp2
            go_roundw
            case rel => exact ⟨j + 1, by omega, by simp, by rw [hT2.out]; simp; omega, by first | rfl | trivial⟩
            case measure => simp [intOf]; omega
        · obtain rfl : j = 8 := by omega
          rw [← HS.out]
          go_wp2
          go_roundw
          case rel => exact ⟨k + 1, by omega, by simp, rfl, by first | rfl | trivial⟩
          case measure => simp [intOf]; omega
    · obtain rfl : k = n := by omega
      go_wp2
      go_ret
      exact ⟨rfl, HB.out⟩
set_option maxHeartbeats 800000 in
theorem iSum_none {w : World} (ao : Option Addr) (cap : Nat) (hE : Et w) :
    Calls Tryd.prog 27 #[.slice ao 0 cap] w fun e w' => e = .returned (.int .i64 65535) ∧ Below w.heap.size w w' := by
  have HE : Hid (Et w) := hE
  clear hE
  go_enter Tryd.func27, Tryd.ntmps27
  go_wp2_with fail
  refine Calls.mono (bytesFault_any _ _ _ (by omega) _) ?_
  rintro e w0 ⟨rfl, hw0⟩
  subst hw0
  rw [mb_ok (by omega)]
  go_wp2_with fail
  refine Calls.mono (code_any 0 _ HE.out) ?_
  rintro e w1 ⟨rfl, hb⟩
  have HB : Hid (Below w0.heap.size w0 w1) := hb
  clear hb
  go_wp2_with fail
  refine wp_loop_rounds 1 ?_
  rw [rounds_succ]
  go_wp2
  go_ret
  exact ⟨rfl, HB.out⟩
set_option maxHeartbeats 800000 in
theorem iSum_many {w : World} (ao : Option Addr) (n cap : Nat) (hn : 100000 < n) (hm : n ≤ 1000000000000) (hE : Et w) :
    Calls Tryd.prog 27 #[.slice ao n cap] w fun e w' => e = .returned (.int .i64 2) ∧ Below w.heap.size w w' := by
  have HE : Hid (Et w) := hE
  clear hE
  go_enter Tryd.func27, Tryd.ntmps27
  go_wp2_with fail
  refine Calls.mono (bytesFault_any _ _ _ (by omega) _) ?_
  rintro e w0 ⟨rfl, hw0⟩
  subst hw0
  rw [mb_many hn]
  go_wp2_with fail
  refine Calls.mono (code_any 2 _ HE.out) ?_
  rintro e w1 ⟨rfl, hb⟩
  have HB : Hid (Below w0.heap.size w0 w1) := hb
  clear hb
  go_wp2
  go_ret
  exact ⟨rfl, HB.out⟩
/-- What CheckSum answers. -/
def sumV (F : Nat → Int) (n : Nat) : Int := if 100000 < n then 2 else cs F n
theorem iSum_any {w : World} {v : Value} {n : Nat} {F : Nat → Int} (h : RdB w v n F) (hF : By n F) (hm : n ≤ 1000000000000) (hE : Et w) :
    Calls Tryd.prog 27 #[v] w fun e w' => e = .returned (.int .i64 (sumV F n)) ∧ Below w.heap.size w w' := by
  by_cases hn : 100000 < n
  · obtain ⟨ao, cap, rfl⟩ := h.form
    unfold sumV
    rw [if_pos hn]
    exact iSum_many ao n cap hn hm hE
  · unfold sumV
    rw [if_neg hn]
    rcases h with ⟨ao, cap, rfl, rfl⟩ | ⟨b, off, cap, rfl, hc⟩
    · exact iSum_none ao cap hE
    · exact iSum_ok hc hF (by omega) hE
set_option maxRecDepth 20000 in
set_option maxHeartbeats 3200000 in
theorem sSumOf_ok {w : World} {b off n cap : Nat} {F : Nat → Int} (hc : ∀ i, i < n → w.cell? ⟨b, off + i, none⟩ = some (.int .u8 (F i))) (hF : By n F) (hn : n ≤ 100000) :
    Calls Tryd.prog 89 #[.int .i64 65535, .slice (some ⟨b, off, none⟩) n cap] w fun e w' => e = .returned (.int .i64 (cs F n)) ∧ w' = w := by
  have HC : Hid (∀ i, i < n → w.cell? ⟨b, off + i, none⟩ = some (.int .u8 (F i))) := hc
  have HF : Hid (By n F) := hF
  have hn2 : (n : Int) ≤ 100000 := by omega
  clear hc hF
  go_enter Tryd.func89, Tryd.ntmps89
  go_wp2_with fail
  go_loopw [0, 5] (fun s i wr => ∃ k : Nat, k ≤ n ∧ i = .int .i64 k ∧ s = .int .i64 (cs F k) ∧ wr = w) (fun _ i _ => n - (intOf i).toNat)
  case atStart => exact ⟨0, Nat.zero_le _, rfl, rfl, rfl⟩
  case round =>
    obtain ⟨k, hk, rfl, rfl, rfl⟩ := hrel
    by_cases hkn : k < n
    · have g1 := HC.out k hkn
      obtain ⟨f0, f1⟩ := HF.out k hkn
      obtain ⟨c0, c1⟩ := cs_bd HF.out k (by omega)
      have hS : cs F (k + 1) = it (xo (cs F k) (F k * 256)) 8 := rfl
      have hX := xo_bd c0 c1 (show 0 ≤ F k * 256 by omega) (by omega)
      have HI : Hid (∀ j, 0 ≤ it (xo (cs F k) (F k * 256)) j ∧ it (xo (cs F k) (F k * 256)) j < 65536) := it_bd hX.1 hX.2
      obtain ⟨f, hf⟩ : ∃ f, f = F k := ⟨_, rfl⟩
      obtain ⟨c, hcs⟩ : ∃ c, c = cs F k := ⟨_, rfl⟩
      rw [← hf] at g1 f0 f1 hS hX HI
      rw [← hcs] at c0 c1 hS hX HI ⊢
      have HS : Hid (cs F (k + 1) = it (xo c (f * 256)) 8) := hS
      clear hf hcs hS hX
      go_wp2_with fail
      refine Calls.mono (xor_any _ _ _) ?_
      rintro e wx ⟨rfl, rfl⟩
      go_wp2_with fail
      go_loopw [0, 6] (fun s i wr' => ∃ j : Nat, j ≤ 8 ∧ i = .int .i64 j ∧ s = .int .i64 (it (xo c (f * 256)) j) ∧ wr' = wx) (fun _ i _ => 8 - (intOf i).toNat)
      case atStart => exact ⟨0, Nat.zero_le _, rfl, rfl, rfl⟩
      case round =>
        obtain ⟨j, hj, rfl, rfl, rfl⟩ := hrel
        by_cases hj8 : j < 8
        · obtain ⟨i0, i1⟩ := HI.out j
          have hT : it (xo c (f * 256)) (j + 1) = st (it (xo c (f * 256)) j) := rfl
          obtain ⟨x, hx⟩ : ∃ x, x = it (xo c (f * 256)) j := ⟨_, rfl⟩
          rw [← hx] at i0 i1 hT ⊢
          clear hx
          by_cases hg : 65536 ≤ 2 * x
          · have hT2 : Hid (it (xo c (f * 256)) (j + 1) = xo (2 * x - 65536) 4129) := by show _ = _; rw [hT]; simp [st, hg]
            clear hT
            go_wp2_with fail
            refine Calls.mono (xor_any _ _ _) ?_
            rintro e wy ⟨rfl, rfl⟩
            go_wp2
            go_roundw
            case rel => exact ⟨j + 1, by omega, by simp, by rw [hT2.out]; simp; congr 1; omega, by first | rfl | trivial⟩
            case measure => simp [intOf]; omega
          · have hT2 : Hid (it (xo c (f * 256)) (j + 1) = 2 * x) := by show _ = _; rw [hT]; simp [st, hg]
            clear hT
            go_wp2
            go_roundw
            case rel => exact ⟨j + 1, by omega, by simp, by rw [hT2.out]; simp; omega, by first | rfl | trivial⟩
            case measure => simp [intOf]; omega
        · obtain rfl : j = 8 := by omega
          rw [← HS.out]
          go_wp2
          go_roundw
          case rel => exact ⟨k + 1, by omega, by simp, rfl, by first | rfl | trivial⟩
          case measure => simp [intOf]; omega
    · obtain rfl : k = n := by omega
      go_wp2
      go_ret
      exact ⟨rfl, rfl⟩
theorem sSumOf_none {w : World} (ao : Option Addr) (cap : Nat) :
    Calls Tryd.prog 89 #[.int .i64 65535, .slice ao 0 cap] w fun e w' => e = .returned (.int .i64 65535) ∧ w' = w := by
  go_enter Tryd.func89, Tryd.ntmps89
  go_wp2_with fail
  refine wp_loop_rounds 1 ?_
  rw [rounds_succ]
  go_wp2
  go_ret
  exact ⟨rfl, rfl⟩
theorem sSum_any {w : World} {v : Value} {n : Nat} {F : Nat → Int} (h : RdB w v n F) (hF : By n F) (hm : n ≤ 1000000000000) :
    Calls Tryd.prog 25 #[v] w fun e w' => e = .returned (.int .i64 (sumV F n)) ∧ w' = w := by
  obtain ⟨ao, cap, hv⟩ := h.form
  by_cases hn : 100000 < n
  · subst hv
    unfold sumV
    rw [if_pos hn]
    have hd : decide ((100000 : Int) < n) = true := by simp; omega
    go_enter Tryd.func25, Tryd.ntmps25
    go_wp2_with fail
    refine Calls.mono (many_any _ _ _ _) ?_
    rintro e w1 ⟨rfl, rfl⟩
    rw [hd]
    go_wp2
    go_ret
    exact ⟨rfl, rfl⟩
  · unfold sumV
    rw [if_neg hn]
    have hd : decide ((100000 : Int) < n) = false := by simp; omega
    have HS : Hid (Calls Tryd.prog 89 #[.int .i64 65535, v] w fun e w' => e = .returned (.int .i64 (cs F n)) ∧ w' = w) := by
      rcases h with ⟨ao, cap, rfl, rfl⟩ | ⟨b, off, cap, rfl, hc⟩
      · exact sSumOf_none ao cap
      · exact sSumOf_ok hc hF (by omega)
    subst hv
    clear h hF
    go_enter Tryd.func25, Tryd.ntmps25
    go_wp2_with fail
    refine Calls.mono (many_any _ _ _ _) ?_
    rintro e w1 ⟨rfl, rfl⟩
    rw [hd]
    go_wp2_with fail
    refine Calls.mono HS.out ?_
    rintro e w2 ⟨rfl, rfl⟩
    go_wp2
    go_ret
    exact ⟨rfl, rfl⟩
end Go.Proofs.YtdknclkecbdpgaaDoor
