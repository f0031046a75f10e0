/- Lists of cells: the laws' own marks. -/
import Derived.Test.YtboppklcmdfphaaCl
namespace Go.Proofs.Ytboppklcmdfphaa
open Go.RowKit
set_option linter.unusedVariables false
set_option linter.unusedSimpArgs false
/-- The marks of cell i, the first cell's first one being k. -/
def mK (k : Int) (i : Nat) : Int := k + 6 * (i : Int)
def mce (K : Int) : Ce := ⟨K, K + 1, K + 1 + 1, K + 1 + 1 + 1, K + 1 + 1 + 1 + 1, K + 1 + 1 + 1 + 1 + 1⟩
set_option maxRecDepth 20000 in
set_option maxHeartbeats 3200000 in
theorem markCe_some (g n cap : Nat) (k0 : Int) (f : Nat → Nat → Value) (w : World) (hn : n ≤ 1048576) (hk0 : 0 ≤ k0) (hk1 : k0 ≤ 100000000) (hs : SegV w g 77 n 6 f) :
    Calls Try.prog 75 #[.slice (some ⟨g, 0, none⟩) n cap, .int .i64 k0] w fun e w' => e = .returned (.int .i64 (mK k0 n)) ∧ SegV w' g 77 n 6 (fun i j => ccell (mce (mK k0 i)) j) ∧ Within g (g + 1) w w' ∧ w'.heap.size = w.heap.size := by
  have HS : Hid (SegV w g 77 n 6 f) := hs
  clear hs
  have hnI : (n : Int) ≤ 1048576 := by omega
  go_enter Try.func75, Try.ntmps75
  go_wp2_with fail
  go_loopw [1, 5] (fun s1 s5 wr => ∃ i : Nat, i ≤ n ∧ s1 = .int .i64 (mK k0 i) ∧ s5 = .int .i64 i ∧ Hid (SegV wr g 77 n 6 (fun a j => if a < i then ccell (mce (mK k0 a)) j else f a j) ∧ Within g (g + 1) w wr ∧ wr.heap.size = w.heap.size)) (fun _ s5 _ => n - (intOf s5).toNat)
  case atStart => exact ⟨0, Nat.zero_le _, by simp [mK], rfl, HS.out.congr (fun a _ j _ => by simp), Within.refl _ _ _, rfl⟩
  case round =>
    obtain ⟨i, hi, rfl, rfl, HH⟩ := hrel
    by_cases hin : i < n
    · have fz : ∀ j, wr.frozen? ⟨g, j, none⟩ = false := fun j => HH.out.1.frozen j
      have a0 := HH.out.1.cell hin (show 0 < 6 by omega)
      have a1 := HH.out.1.cell hin (show 1 < 6 by omega)
      have a2 := HH.out.1.cell hin (show 2 < 6 by omega)
      have a3 := HH.out.1.cell hin (show 3 < 6 by omega)
      have a4 := HH.out.1.cell hin (show 4 < 6 by omega)
      have a5 := HH.out.1.cell hin (show 5 < 6 by omega)
      simp only [Nat.add_zero, Nat.lt_irrefl, if_false] at a0 a1 a2 a3 a4 a5
      have hiI : (i : Int) < n := by omega
      have hKn : mK k0 (i + 1) = mK k0 i + 1 + 1 + 1 + 1 + 1 + 1 := by unfold mK; omega
      have hK0 : 0 ≤ mK k0 i := by unfold mK; omega
      have hK1 : mK k0 i ≤ 500000000 := by unfold mK; omega
      obtain ⟨K, hK⟩ : ∃ K : Int, K = mK k0 i := ⟨_, rfl⟩
      have HK : Hid (mK k0 (i + 1) = K + 1 + 1 + 1 + 1 + 1 + 1) := by rw [hK]; exact hKn
      rw [← hK] at hK0 hK1 ⊢
      clear hKn
      have HW : Hid (SegV ((((((wr.setCell ⟨g, i * 6, none⟩ (.int .i64 (K))).setCell ⟨g, i * 6 + 1, none⟩ (.int .i64 (K + 1))).setCell ⟨g, i * 6 + 2, none⟩ (.int .i64 (K + 1 + 1))).setCell ⟨g, i * 6 + 3, none⟩ (.int .i64 (K + 1 + 1 + 1))).setCell ⟨g, i * 6 + 4, none⟩ (.int .i64 (K + 1 + 1 + 1 + 1))).setCell ⟨g, i * 6 + 5, none⟩ (.int .i64 (K + 1 + 1 + 1 + 1 + 1))) g 77 n 6 (fun a j => if a < i + 1 then ccell (mce (mK k0 a)) j else f a j) ∧ Within g (g + 1) w ((((((wr.setCell ⟨g, i * 6, none⟩ (.int .i64 (K))).setCell ⟨g, i * 6 + 1, none⟩ (.int .i64 (K + 1))).setCell ⟨g, i * 6 + 2, none⟩ (.int .i64 (K + 1 + 1))).setCell ⟨g, i * 6 + 3, none⟩ (.int .i64 (K + 1 + 1 + 1))).setCell ⟨g, i * 6 + 4, none⟩ (.int .i64 (K + 1 + 1 + 1 + 1))).setCell ⟨g, i * 6 + 5, none⟩ (.int .i64 (K + 1 + 1 + 1 + 1 + 1))) ∧ ((((((wr.setCell ⟨g, i * 6, none⟩ (.int .i64 (K))).setCell ⟨g, i * 6 + 1, none⟩ (.int .i64 (K + 1))).setCell ⟨g, i * 6 + 2, none⟩ (.int .i64 (K + 1 + 1))).setCell ⟨g, i * 6 + 3, none⟩ (.int .i64 (K + 1 + 1 + 1))).setCell ⟨g, i * 6 + 4, none⟩ (.int .i64 (K + 1 + 1 + 1 + 1))).setCell ⟨g, i * 6 + 5, none⟩ (.int .i64 (K + 1 + 1 + 1 + 1 + 1))).heap.size = w.heap.size) := by
        obtain ⟨h1, h2, h4⟩ := HH.out
        have t0 := SegV.set h1 hin (show 0 < 6 by omega) (.int .i64 (K))
        have t1 := SegV.set t0 hin (show 1 < 6 by omega) (.int .i64 (K + 1))
        have t2 := SegV.set t1 hin (show 2 < 6 by omega) (.int .i64 (K + 1 + 1))
        have t3 := SegV.set t2 hin (show 3 < 6 by omega) (.int .i64 (K + 1 + 1 + 1))
        have t4 := SegV.set t3 hin (show 4 < 6 by omega) (.int .i64 (K + 1 + 1 + 1 + 1))
        have t5 := SegV.set t4 hin (show 5 < 6 by omega) (.int .i64 (K + 1 + 1 + 1 + 1 + 1))
        refine ⟨t5.congr fun a ha j hj => ?_, ((((((h2.setCell (Nat.le_refl _) (Nat.lt_succ_self _) _).setCell (Nat.le_refl _) (Nat.lt_succ_self _) _).setCell (Nat.le_refl _) (Nat.lt_succ_self _) _).setCell (Nat.le_refl _) (Nat.lt_succ_self _) _).setCell (Nat.le_refl _) (Nat.lt_succ_self _) _).setCell (Nat.le_refl _) (Nat.lt_succ_self _) _), by simpa using h4⟩
        by_cases c : a = i
        · subst c
          have e3 : a < a + 1 := by omega
          rw [← hK]
          match j, hj with
          | 0, _ => simp [e3, ccell, mce]
          | 1, _ => simp [e3, ccell, mce]
          | 2, _ => simp [e3, ccell, mce]
          | 3, _ => simp [e3, ccell, mce]
          | 4, _ => simp [e3, ccell, mce]
          | 5, _ => simp [e3, ccell, mce]
        · by_cases c2 : a < i
          · simp [c, c2, Nat.lt_succ_of_lt c2]
          · have : ¬ a < i + 1 := by omega
            simp [c, c2, this]
      clear hK HH
      go_wp2
      go_roundw
      case rel =>
        refine ⟨i + 1, by omega, by rw [HK.out], by simp, ?_⟩
        first | exact HW | (simp only [Nat.add_assoc, Nat.reduceAdd]; exact HW)
      case measure => simp [intOf]; omega
    · obtain rfl : i = n := by omega
      go_wp2
      go_ret
      exact ⟨rfl, HH.out.1.congr fun a ha j _ => by simp [ha], HH.out.2⟩
set_option maxRecDepth 20000 in
set_option maxHeartbeats 3200000 in
theorem heldCe_some (g n cap : Nat) (k0 : Int) (w : World) (hn : n ≤ 1048576) (hk0 : 0 ≤ k0) (hk1 : k0 ≤ 100000000) (hs : SegV w g 77 n 6 (fun i j => ccell (mce (mK k0 i)) j)) :
    Calls Try.prog 114 #[.slice (some ⟨g, 0, none⟩) n cap, .int .i64 k0] w fun e w' => e = .returned (.int .i64 (mK k0 n)) ∧ w = w' := by
  have HS : Hid (SegV w g 77 n 6 (fun i j => ccell (mce (mK k0 i)) j)) := hs
  clear hs
  have hnI : (n : Int) ≤ 1048576 := by omega
  go_enter Try.func114, Try.ntmps114
  go_wp2_with fail
  go_loopw [1, 5] (fun s1 s5 wr => wr = w ∧ ∃ i : Nat, i ≤ n ∧ s1 = .int .i64 (mK k0 i) ∧ s5 = .int .i64 i) (fun _ s5 _ => n - (intOf s5).toNat)
  case atStart => exact ⟨rfl, 0, Nat.zero_le _, by simp [mK], rfl⟩
  case round =>
    obtain ⟨rfl, i, hi, rfl, rfl⟩ := hrel
    by_cases hin : i < n
    · have hKn : mK k0 (i + 1) = mK k0 i + 1 + 1 + 1 + 1 + 1 + 1 := by unfold mK; omega
      have hK0 : 0 ≤ mK k0 i := by unfold mK; omega
      have hK1 : mK k0 i ≤ 500000000 := by unfold mK; omega
      have a0 : wr.cell? ⟨g, i * 6, none⟩ = some (.int .i64 (mK k0 i)) := HS.out.cell hin (show 0 < 6 by omega)
      have a1 : wr.cell? ⟨g, i * 6 + 1, none⟩ = some (.int .i64 (mK k0 i + 1)) := HS.out.cell hin (show 1 < 6 by omega)
      have a2 : wr.cell? ⟨g, i * 6 + 2, none⟩ = some (.int .i64 (mK k0 i + 1 + 1)) := HS.out.cell hin (show 2 < 6 by omega)
      have a3 : wr.cell? ⟨g, i * 6 + 3, none⟩ = some (.int .i64 (mK k0 i + 1 + 1 + 1)) := HS.out.cell hin (show 3 < 6 by omega)
      have a4 : wr.cell? ⟨g, i * 6 + 4, none⟩ = some (.int .i64 (mK k0 i + 1 + 1 + 1 + 1)) := HS.out.cell hin (show 4 < 6 by omega)
      have a5 : wr.cell? ⟨g, i * 6 + 5, none⟩ = some (.int .i64 (mK k0 i + 1 + 1 + 1 + 1 + 1)) := HS.out.cell hin (show 5 < 6 by omega)
      generalize mK k0 i = K at hKn hK0 hK1 a0 a1 a2 a3 a4 a5 ⊢
      have HK : Hid (mK k0 (i + 1) = K + 1 + 1 + 1 + 1 + 1 + 1) := hKn
      have hiI : (i : Int) < n := by omega
      clear hKn
      go_wp2
      go_roundw
      case rel => exact ⟨by trivial, i + 1, by omega, by rw [HK.out], by simp⟩
      case measure => simp [intOf]; omega
    · obtain rfl : i = n := by omega
      go_wp2
      go_ret
      exact ⟨rfl, rfl⟩
set_option maxHeartbeats 800000 in
theorem markCe_none (ao : Option Addr) (cap : Nat) (k : Int) (w : World) : Calls Try.prog 75 #[.slice ao 0 cap, .int .i64 k] w fun e w' => e = .returned (.int .i64 k) ∧ w = w' := by
  go_enter Try.func75, Try.ntmps75
  go_wp2_with fail
  refine wp_loop_rounds 1 ?_
  rw [rounds_succ]
  go_wp2
  go_ret
  exact ⟨rfl, rfl⟩
set_option maxHeartbeats 800000 in
theorem heldCe_none (ao : Option Addr) (cap : Nat) (k : Int) (w : World) : Calls Try.prog 114 #[.slice ao 0 cap, .int .i64 k] w fun e w' => e = .returned (.int .i64 k) ∧ w = w' := by
  go_enter Try.func114, Try.ntmps114
  go_wp2_with fail
  refine wp_loop_rounds 1 ?_
  rw [rounds_succ]
  go_wp2
  go_ret
  exact ⟨rfl, rfl⟩
end Go.Proofs.Ytboppklcmdfphaa
