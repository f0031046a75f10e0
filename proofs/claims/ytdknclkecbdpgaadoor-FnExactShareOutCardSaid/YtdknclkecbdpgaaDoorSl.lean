/- Lists of shares: the laws' own comparisons and marks. -/
import Derived.Test.YtdknclkecbdpgaaDoorAn
import Derived.Test.YtdknclkecbdpgaaDoorHv
import Derived.Handy
import Derived.Deep.RegionHeld3
namespace Go.Proofs.YtdknclkecbdpgaaDoor
open Go.RowKit
set_option linter.unusedVariables false
set_option linter.unusedSimpArgs false
abbrev Sh := Int × Int
def scell (g : Sh) : Nat → Value
  | 0 => .int .i64 g.1
  | _ => .int .i64 g.2
set_option maxRecDepth 20000 in
set_option maxHeartbeats 1600000 in
theorem eqSh_one (g : Sh) (w : World) : Calls Tryd.prog 119 #[.agg #[.int .i64 g.1, .int .i64 g.2], .agg #[.int .i64 g.1, .int .i64 g.2]] w fun e w' => e = .returned (.bool true) ∧ Below w.heap.size w w' := by
  go_enter Tryd.func119, Tryd.ntmps119
  go_wp2
  go_ret
  exact ⟨rfl, ((Below.refl _ _).alloc (Nat.le_refl _) _).alloc (by simp) _⟩
set_option maxRecDepth 20000 in
set_option maxHeartbeats 3200000 in
theorem eqShs_same (b cap b' cap' n : Nat) (G : Nat → Sh) (w : World) (hn : n ≤ 1000000000000) (hs : SegV w b 33 n 2 (fun i j => scell (G i) j)) (ht : SegV w b' 33 n 2 (fun i j => scell (G i) j)) :
    Calls Tryd.prog 73 #[.slice (some ⟨b, 0, none⟩) n cap, .slice (some ⟨b', 0, none⟩) n cap'] w fun e w' => e = .returned (.bool true) ∧ Below w.heap.size w w' := by
  have later : ∀ (wr : World) (p : Addr) {v : Value}, w.cell? p = some v → Below w.heap.size w wr → wr.cell? p = some v := fun wr p v h hb => (hb.cell (World.block_lt_of_cell? _ _ h)).trans h
  go_enter Tryd.func73, Tryd.ntmps73
  go_wp2_with fail
  go_loopw [5] (fun i wr => ∃ k : Nat, k ≤ n ∧ i = .int .i64 k ∧ Below w.heap.size w wr) (fun i _ => n - (intOf i).toNat)
  case atStart => exact ⟨0, Nat.zero_le _, rfl, Below.refl _ _⟩
  case round =>
    obtain ⟨k, hk, rfl, hb⟩ := hrel
    by_cases hkn : k < n
    · have p0 : ∀ W, Below w.heap.size w W → W.cell? ⟨b, k * 2, none⟩ = some (.int .i64 (G k).1) := fun W h => later W _ (hs.cell hkn (show 0 < 2 by omega)) h
      have q0 : ∀ W, Below w.heap.size w W → W.cell? ⟨b', k * 2, none⟩ = some (.int .i64 (G k).1) := fun W h => later W _ (ht.cell hkn (show 0 < 2 by omega)) h
      have p1 : ∀ W, Below w.heap.size w W → W.cell? ⟨b, k * 2 + 1, none⟩ = some (.int .i64 (G k).2) := fun W h => later W _ (hs.cell hkn (show 1 < 2 by omega)) h
      have q1 : ∀ W, Below w.heap.size w W → W.cell? ⟨b', k * 2 + 1, none⟩ = some (.int .i64 (G k).2) := fun W h => later W _ (ht.cell hkn (show 1 < 2 by omega)) h
      clear hs ht later
      go_wp2_with fail
      go_region_held (fun W => Below w.heap.size w W) (first | assumption | exact Below.drew ‹_›)
        (first | (go_at_call 119; refine (eqSh_one (G k) _).mono ?_; rintro e w1 ⟨rfl, hb1⟩; have hR1 := box_step ‹_› hb1 (Nat.le_refl _)))
      have HB : Hid (Below w.heap.size w w1) := hR1
      clear hR1 hb1 p0 q0 p1 q1
      go_wp2
      go_roundw
      case rel => exact ⟨k + 1, by omega, by simp, HB.out⟩
      case measure => simp [intOf]; omega
    · obtain rfl : k = n := by omega
      clear hs ht later
      go_wp2
      go_ret
      exact ⟨rfl, hb⟩
/-- The marks of share i, the first share's first one being k. -/
def mS (k : Int) (i : Nat) : Int := k + 2 * (i : Int)
def msh (K : Int) : Sh := ⟨K, K + 1⟩
set_option maxRecDepth 20000 in
set_option maxHeartbeats 3200000 in
theorem markSh_some (g n cap : Nat) (k0 : Int) (f : Nat → Nat → Value) (w : World) (hn : n ≤ 1048576) (hk0 : 0 ≤ k0) (hk1 : k0 ≤ 100000000) (hs : SegV w g 33 n 2 f) :
    Calls Tryd.prog 74 #[.slice (some ⟨g, 0, none⟩) n cap, .int .i64 k0] w fun e w' => e = .returned (.int .i64 (mS k0 n)) ∧ SegV w' g 33 n 2 (fun i j => scell (msh (mS k0 i)) j) ∧ Within g (g + 1) w w' ∧ w'.heap.size = w.heap.size := by
  have HS : Hid (SegV w g 33 n 2 f) := hs
  clear hs
  have hnI : (n : Int) ≤ 1048576 := by omega
  go_enter Tryd.func74, Tryd.ntmps74
  go_wp2_with fail
  go_loopw [1, 5] (fun s1 s5 wr => ∃ i : Nat, i ≤ n ∧ s1 = .int .i64 (mS k0 i) ∧ s5 = .int .i64 i ∧ Hid (SegV wr g 33 n 2 (fun a j => if a < i then scell (msh (mS k0 a)) j else f a j) ∧ Within g (g + 1) w wr ∧ wr.heap.size = w.heap.size)) (fun _ s5 _ => n - (intOf s5).toNat)
  case atStart => exact ⟨0, Nat.zero_le _, by simp [mS], rfl, HS.out.congr (fun a _ j _ => by simp), Within.refl _ _ _, rfl⟩
  case round =>
    obtain ⟨i, hi, rfl, rfl, HH⟩ := hrel
    by_cases hin : i < n
    · have fz : ∀ j, wr.frozen? ⟨g, j, none⟩ = false := fun j => HH.out.1.frozen j
      have a0 := HH.out.1.cell hin (show 0 < 2 by omega)
      have a1 := HH.out.1.cell hin (show 1 < 2 by omega)
      simp only [Nat.add_zero, Nat.lt_irrefl, if_false] at a0 a1
      have hiI : (i : Int) < n := by omega
      have hKn : mS k0 (i + 1) = mS k0 i + 1 + 1 := by unfold mS; omega
      have hK0 : 0 ≤ mS k0 i := by unfold mS; omega
      have hK1 : mS k0 i ≤ 500000000 := by unfold mS; omega
      obtain ⟨K, hK⟩ : ∃ K : Int, K = mS k0 i := ⟨_, rfl⟩
      have HK : Hid (mS k0 (i + 1) = K + 1 + 1) := by rw [hK]; exact hKn
      rw [← hK] at hK0 hK1 ⊢
      clear hKn
      have HW : Hid (SegV ((wr.setCell ⟨g, i * 2, none⟩ (.int .i64 (K))).setCell ⟨g, i * 2 + 1, none⟩ (.int .i64 (K + 1))) g 33 n 2 (fun a j => if a < i + 1 then scell (msh (mS k0 a)) j else f a j) ∧ Within g (g + 1) w ((wr.setCell ⟨g, i * 2, none⟩ (.int .i64 (K))).setCell ⟨g, i * 2 + 1, none⟩ (.int .i64 (K + 1))) ∧ ((wr.setCell ⟨g, i * 2, none⟩ (.int .i64 (K))).setCell ⟨g, i * 2 + 1, none⟩ (.int .i64 (K + 1))).heap.size = w.heap.size) := by
        obtain ⟨h1, h2, h4⟩ := HH.out
        have t0 := SegV.set h1 hin (show 0 < 2 by omega) (.int .i64 (K))
        have t1 := SegV.set t0 hin (show 1 < 2 by omega) (.int .i64 (K + 1))
        refine ⟨t1.congr fun a ha j hj => ?_, ((h2.setCell (Nat.le_refl _) (Nat.lt_succ_self _) _).setCell (Nat.le_refl _) (Nat.lt_succ_self _) _), by simpa using h4⟩
        by_cases c : a = i
        · subst c
          have e3 : a < a + 1 := by omega
          rw [← hK]
          match j, hj with
          | 0, _ => simp [e3, scell, msh]
          | 1, _ => simp [e3, scell, msh]
        · by_cases c2 : a < i
          · simp [c, c2, Nat.lt_succ_of_lt c2]
          · have : ¬ a < i + 1 := by omega
            simp [c, c2, this]
      clear hK HH
      go_wp2
      go_roundw
      case rel =>
        refine ⟨i + 1, by omega, by rw [HK.out], by simp, ?_⟩
        first | exact HW | (simp only [Nat.add_assoc, Nat.reduceAdd]; exact HW)
      case measure => simp [intOf]; omega
    · obtain rfl : i = n := by omega
      go_wp2
      go_ret
      exact ⟨rfl, HH.out.1.congr fun a ha j _ => by simp [ha], HH.out.2⟩
set_option maxRecDepth 20000 in
set_option maxHeartbeats 3200000 in
theorem heldSh_some (g n cap : Nat) (k0 : Int) (w : World) (hn : n ≤ 1048576) (hk0 : 0 ≤ k0) (hk1 : k0 ≤ 100000000) (hs : SegV w g 33 n 2 (fun i j => scell (msh (mS k0 i)) j)) :
    Calls Tryd.prog 114 #[.slice (some ⟨g, 0, none⟩) n cap, .int .i64 k0] w fun e w' => e = .returned (.int .i64 (mS k0 n)) ∧ w = w' := by
  have HS : Hid (SegV w g 33 n 2 (fun i j => scell (msh (mS k0 i)) j)) := hs
  clear hs
  have hnI : (n : Int) ≤ 1048576 := by omega
  go_enter Tryd.func114, Tryd.ntmps114
  go_wp2_with fail
  go_loopw [1, 5] (fun s1 s5 wr => wr = w ∧ ∃ i : Nat, i ≤ n ∧ s1 = .int .i64 (mS k0 i) ∧ s5 = .int .i64 i) (fun _ s5 _ => n - (intOf s5).toNat)
  case atStart => exact ⟨rfl, 0, Nat.zero_le _, by simp [mS], rfl⟩
  case round =>
    obtain ⟨rfl, i, hi, rfl, rfl⟩ := hrel
    by_cases hin : i < n
    · have hKn : mS k0 (i + 1) = mS k0 i + 1 + 1 := by unfold mS; omega
      have hK0 : 0 ≤ mS k0 i := by unfold mS; omega
      have hK1 : mS k0 i ≤ 500000000 := by unfold mS; omega
      have a0 : wr.cell? ⟨g, i * 2, none⟩ = some (.int .i64 (mS k0 i)) := HS.out.cell hin (show 0 < 2 by omega)
      have a1 : wr.cell? ⟨g, i * 2 + 1, none⟩ = some (.int .i64 (mS k0 i + 1)) := HS.out.cell hin (show 1 < 2 by omega)
      generalize mS k0 i = K at hKn hK0 hK1 a0 a1 ⊢
      have HK : Hid (mS k0 (i + 1) = K + 1 + 1) := hKn
      have hiI : (i : Int) < n := by omega
      clear hKn
      go_wp2
      go_roundw
      case rel => exact ⟨by trivial, i + 1, by omega, by rw [HK.out], by simp⟩
      case measure => simp [intOf]; omega
    · obtain rfl : i = n := by omega
      go_wp2
      go_ret
      exact ⟨rfl, rfl⟩
set_option maxHeartbeats 800000 in
theorem markSh_none (ao : Option Addr) (cap : Nat) (k : Int) (w : World) : Calls Tryd.prog 74 #[.slice ao 0 cap, .int .i64 k] w fun e w' => e = .returned (.int .i64 k) ∧ w = w' := by
  go_enter Tryd.func74, Tryd.ntmps74
  go_wp2_with fail
  refine wp_loop_rounds 1 ?_
  rw [rounds_succ]
  go_wp2
  go_ret
  exact ⟨rfl, rfl⟩
set_option maxHeartbeats 800000 in
theorem heldSh_none (ao : Option Addr) (cap : Nat) (k : Int) (w : World) : Calls Tryd.prog 114 #[.slice ao 0 cap, .int .i64 k] w fun e w' => e = .returned (.int .i64 k) ∧ w = w' := by
  go_enter Tryd.func114, Tryd.ntmps114
  go_wp2_with fail
  refine wp_loop_rounds 1 ?_
  rw [rounds_succ]
  go_wp2
  go_ret
  exact ⟨rfl, rfl⟩
set_option maxHeartbeats 800000 in
theorem eqSh_none (ao ao' : Option Addr) (cap cap' : Nat) (w : World) : Calls Tryd.prog 73 #[.slice ao 0 cap, .slice ao' 0 cap'] w fun e w' => e = .returned (.bool true) ∧ w = w' := by
  go_enter Tryd.func73, Tryd.ntmps73
  go_wp2_with fail
  refine wp_loop_rounds 1 ?_
  rw [rounds_succ]
  go_wp2
  go_ret
  exact ⟨rfl, rfl⟩
end Go.Proofs.YtdknclkecbdpgaaDoor
