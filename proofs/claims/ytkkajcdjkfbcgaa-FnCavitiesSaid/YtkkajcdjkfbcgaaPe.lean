/- Lists of parts: the laws' own comparisons and marks. -/
import Derived.Test.YtkkajcdjkfbcgaaVr
import Derived.Test.YtkkajcdjkfbcgaaBk
import Derived.Handy
import Derived.Deep.RegionHeld3
import Derived.Deep.DeepCutAuto
import Derived.Test.YtkkajcdjkfbcgaaMake
namespace Go.Proofs.Ytkkajcdjkfbcgaa
open Go.RowKit
set_option linter.unusedVariables false
set_option linter.unusedSimpArgs false
/-- A part: kind and strength. -/
theorem cell_ne {W : World} {b c i j : Nat} {u v : Value} (hne : b ≠ c) (h : W.cell? ⟨b, i, none⟩ = some v) : (W.setCell ⟨c, j, none⟩ u).cell? ⟨b, i, none⟩ = some v :=
  (World.cell?_of_block (w := W) (a := ⟨b, i, none⟩) (Below.heap_setCell _ _ _ _ hne)).trans h
structure Pt where
  k : Int
  x : Q
def tcell (g : Pt) : Nat → Value
  | 0 => .int .i64 g.k
  | 1 => .int .i64 g.x.n
  | _ => .int .i64 g.x.d
set_option maxRecDepth 20000 in
set_option maxHeartbeats 1600000 in
theorem eqPt_same (g : Pt) (w : World) : Calls Try.prog 122 #[.agg #[.int .i64 g.k, .int .i64 g.x.n, .int .i64 g.x.d], .agg #[.int .i64 g.k, .int .i64 g.x.n, .int .i64 g.x.d]] w fun e w' => e = .returned (.bool true) ∧ Below w.heap.size w w' := by
  go_enter Try.func122, Try.ntmps122
  go_wp2_with fail
  refine (eqFrac_same g.x.n g.x.d _).mono ?_
  rintro e w1 ⟨rfl, hb⟩
  have HO : Hid (Below w.heap.size w w1) := by refine box_step ?_ hb (by simp <;> omega); go_grown
  have X0 : Blk w1 (w.heap.size) #[.int .i64 g.k, .int .i64 g.x.n, .int .i64 g.x.d] 111 := Blk.old ((Blk.alloc (Blk.new (by simp)) _)) hb
  have K0 : Hid (w1.cell? ⟨w.heap.size, 0, none⟩ = some (.int .i64 g.k)) := X0.cell rfl
  have K1 : Hid (w1.cell? ⟨w.heap.size, 1, none⟩ = some (.int .i64 g.x.n)) := X0.cell rfl
  have K2 : Hid (w1.cell? ⟨w.heap.size, 2, none⟩ = some (.int .i64 g.x.d)) := X0.cell rfl
  clear X0
  have X1 : Blk w1 (w.heap.size + 1) #[.int .i64 g.k, .int .i64 g.x.n, .int .i64 g.x.d] 111 := Blk.old ((Blk.new (by simp))) hb
  have K3 : Hid (w1.cell? ⟨w.heap.size + 1, 0, none⟩ = some (.int .i64 g.k)) := X1.cell rfl
  have K4 : Hid (w1.cell? ⟨w.heap.size + 1, 1, none⟩ = some (.int .i64 g.x.n)) := X1.cell rfl
  have K5 : Hid (w1.cell? ⟨w.heap.size + 1, 2, none⟩ = some (.int .i64 g.x.d)) := X1.cell rfl
  clear X1
  clear hb
  have c0 := K0.out
  have c1 := K1.out
  have c2 := K2.out
  have c3 := K3.out
  have c4 := K4.out
  have c5 := K5.out
  go_wp2
  go_ret
  refine ⟨by first | rfl | simp, ?_⟩
  have h := HO.out
  have hsz := h.size
  go_grown
set_option maxRecDepth 20000 in
set_option maxHeartbeats 3200000 in
theorem eqPts_same (b cap b' cap' n : Nat) (G : Nat → Pt) (w : World) (hn : n ≤ 1000000000000) (hs : SegV w b 111 n 3 (fun i j => tcell (G i) j)) (ht : SegV w b' 111 n 3 (fun i j => tcell (G i) j)) :
    Calls Try.prog 91 #[.slice (some ⟨b, 0, none⟩) n cap, .slice (some ⟨b', 0, none⟩) n cap'] w fun e w' => e = .returned (.bool true) ∧ Below w.heap.size w w' := by
  have later : ∀ (wr : World) (p : Addr) {v : Value}, w.cell? p = some v → Below w.heap.size w wr → wr.cell? p = some v := fun wr p v h hb => (hb.cell (World.block_lt_of_cell? _ _ h)).trans h
  go_enter Try.func91, Try.ntmps91
  go_wp2_with fail
  go_loopw [5] (fun i wr => ∃ k : Nat, k ≤ n ∧ i = .int .i64 k ∧ Below w.heap.size w wr) (fun i _ => n - (intOf i).toNat)
  case atStart => exact ⟨0, Nat.zero_le _, rfl, Below.refl _ _⟩
  case round =>
    obtain ⟨k, hk, rfl, hb⟩ := hrel
    by_cases hkn : k < n
    · have p0 : ∀ W, Below w.heap.size w W → W.cell? ⟨b, k * 3, none⟩ = some (.int .i64 (G k).k) := fun W h => later W _ (hs.cell hkn (show 0 < 3 by omega)) h
      have q0 : ∀ W, Below w.heap.size w W → W.cell? ⟨b', k * 3, none⟩ = some (.int .i64 (G k).k) := fun W h => later W _ (ht.cell hkn (show 0 < 3 by omega)) h
      have p1 : ∀ W, Below w.heap.size w W → W.cell? ⟨b, k * 3 + 1, none⟩ = some (.int .i64 (G k).x.n) := fun W h => later W _ (hs.cell hkn (show 1 < 3 by omega)) h
      have q1 : ∀ W, Below w.heap.size w W → W.cell? ⟨b', k * 3 + 1, none⟩ = some (.int .i64 (G k).x.n) := fun W h => later W _ (ht.cell hkn (show 1 < 3 by omega)) h
      have p2 : ∀ W, Below w.heap.size w W → W.cell? ⟨b, k * 3 + 2, none⟩ = some (.int .i64 (G k).x.d) := fun W h => later W _ (hs.cell hkn (show 2 < 3 by omega)) h
      have q2 : ∀ W, Below w.heap.size w W → W.cell? ⟨b', k * 3 + 2, none⟩ = some (.int .i64 (G k).x.d) := fun W h => later W _ (ht.cell hkn (show 2 < 3 by omega)) h
      clear hs ht later
      go_wp2_with fail
      go_region_held (fun W => Below w.heap.size w W) (first | assumption | exact Below.drew ‹_›)
        (first | (go_at_call 122; refine (eqPt_same (G k) _).mono ?_; rintro e w1 ⟨rfl, hb1⟩; have hR1 := box_step ‹_› hb1 (Nat.le_refl _)))
      have HB : Hid (Below w.heap.size w w1) := hR1
      clear hR1 hb1 p0 q0 p1 q1 p2 q2
      go_wp2
      go_roundw
      case rel => exact ⟨k + 1, by omega, by simp, HB.out⟩
      case measure => simp [intOf]; omega
    · obtain rfl : k = n := by omega
      clear hs ht later
      go_wp2
      go_ret
      exact ⟨rfl, hb⟩
set_option maxHeartbeats 800000 in
theorem eqPts_none (ao ao' : Option Addr) (cap cap' : Nat) (w : World) : Calls Try.prog 91 #[.slice ao 0 cap, .slice ao' 0 cap'] w fun e w' => e = .returned (.bool true) ∧ Below w.heap.size w w' := by
  go_enter Try.func91, Try.ntmps91
  go_wp2_with fail
  refine wp_loop_rounds 1 ?_
  rw [rounds_succ]
  go_wp2
  go_ret
  exact ⟨rfl, Below.refl _ _⟩
def nK (k i : Nat) : Int := (k : Int) + 3 * i
def mpt (K : Int) : Pt := ⟨K, ⟨K + 1, K + 1 + 1⟩⟩
set_option maxRecDepth 20000 in
set_option maxHeartbeats 3200000 in
theorem markPt_some (g n cap k0 : Nat) (f : Nat → Nat → Value) (lo : Nat) (X w : World) (hn : n ≤ 1048576) (hk0 : k0 ≤ 1000000) (hs : SegV w g 111 n 3 f) (hB : Below lo X w) (hlo : lo ≤ g) :
    Calls Try.prog 92 #[.slice (some ⟨g, 0, none⟩) n cap, .int .i64 k0] w fun e w' => e = .returned (.int .i64 (nK k0 n)) ∧ SegV w' g 111 n 3 (fun i j => tcell (mpt (nK k0 i)) j) ∧ Below lo X w' ∧ (∀ b, b ≠ g → w'.heap[b]? = w.heap[b]?) ∧ w'.heap.size = w.heap.size := by
  have HS : Hid (SegV w g 111 n 3 f ∧ Below lo X w ∧ lo ≤ g) := ⟨hs, hB, hlo⟩
  clear hs hB hlo
  have hnI : (n : Int) ≤ 1048576 := by omega
  have hkI : (k0 : Int) ≤ 1000000 := by omega
  go_enter Try.func92, Try.ntmps92
  go_wp2_with fail
  go_loopw [1, 5] (fun s1 s5 wr => ∃ i : Nat, i ≤ n ∧ s1 = .int .i64 (nK k0 i) ∧ s5 = .int .i64 i ∧ Hid (SegV wr g 111 n 3 (fun a j => if a < i then tcell (mpt (nK k0 a)) j else f a j) ∧ Below lo X wr ∧ (∀ b, b ≠ g → wr.heap[b]? = w.heap[b]?) ∧ wr.heap.size = w.heap.size)) (fun _ s5 _ => n - (intOf s5).toNat)
  case atStart => exact ⟨0, Nat.zero_le _, by simp [nK], rfl, HS.out.1.congr (fun a _ j _ => by simp), HS.out.2.1, fun _ _ => rfl, rfl⟩
  case round =>
    obtain ⟨i, hi, rfl, rfl, HH⟩ := hrel
    by_cases hin : i < n
    · have fz : ∀ j, wr.frozen? ⟨g, j, none⟩ = false := fun j => HH.out.1.frozen j
      have a0 := HH.out.1.cell hin (show 0 < 3 by omega)
      have a1 := HH.out.1.cell hin (show 1 < 3 by omega)
      have a2 := HH.out.1.cell hin (show 2 < 3 by omega)
      simp only [Nat.add_zero, Nat.lt_irrefl, if_false] at a0 a1 a2
      have hiI : (i : Int) < n := by omega
      have hKn : nK k0 (i + 1) = nK k0 i + 1 + 1 + 1 := by unfold nK; omega
      have hK0 : 0 ≤ nK k0 i := by unfold nK; omega
      have hK1 : nK k0 i ≤ 50000000 := by unfold nK; omega
      obtain ⟨K, hK⟩ : ∃ K : Int, K = nK k0 i := ⟨_, rfl⟩
      have HK : Hid (nK k0 (i + 1) = K + 1 + 1 + 1) := by rw [hK]; exact hKn
      rw [← hK] at hK0 hK1 ⊢
      clear hKn
      have HW : Hid (SegV (((wr.setCell ⟨g, i * 3, none⟩ (.int .i64 K)).setCell ⟨g, i * 3 + 1, none⟩ (.int .i64 (K + 1))).setCell ⟨g, i * 3 + 2, none⟩ (.int .i64 (K + 1 + 1))) g 111 n 3 (fun a j => if a < i + 1 then tcell (mpt (nK k0 a)) j else f a j) ∧ Below lo X (((wr.setCell ⟨g, i * 3, none⟩ (.int .i64 K)).setCell ⟨g, i * 3 + 1, none⟩ (.int .i64 (K + 1))).setCell ⟨g, i * 3 + 2, none⟩ (.int .i64 (K + 1 + 1))) ∧ (∀ b, b ≠ g → (((wr.setCell ⟨g, i * 3, none⟩ (.int .i64 K)).setCell ⟨g, i * 3 + 1, none⟩ (.int .i64 (K + 1))).setCell ⟨g, i * 3 + 2, none⟩ (.int .i64 (K + 1 + 1))).heap[b]? = w.heap[b]?) ∧ (((wr.setCell ⟨g, i * 3, none⟩ (.int .i64 K)).setCell ⟨g, i * 3 + 1, none⟩ (.int .i64 (K + 1))).setCell ⟨g, i * 3 + 2, none⟩ (.int .i64 (K + 1 + 1))).heap.size = w.heap.size) := by
        obtain ⟨h1, h2, h3, h4⟩ := HH.out
        have hlo := HS.out.2.2
        have t0 := SegV.set h1 hin (show 0 < 3 by omega) (.int .i64 K)
        have t1 := SegV.set t0 hin (show 1 < 3 by omega) (.int .i64 (K + 1))
        have t2 := SegV.set t1 hin (show 2 < 3 by omega) (.int .i64 (K + 1 + 1))
        refine ⟨t2.congr fun a ha j hj => ?_, (((h2.setCell hlo _).setCell hlo _).setCell hlo _), fun b hb => ?_, ?_⟩
        · by_cases c : a = i
          · subst c
            have e3 : a < a + 1 := by omega
            rw [← hK]
            match j, hj with
            | 0, _ => simp [e3, tcell, mpt]
            | 1, _ => simp [e3, tcell, mpt]
            | 2, _ => simp [e3, tcell, mpt]
          · by_cases c2 : a < i
            · simp [c, c2, Nat.lt_succ_of_lt c2]
            · have : ¬ a < i + 1 := by omega
              simp [c, c2, this]
        · rw [Below.heap_setCell _ _ _ _ (by simpa using hb), Below.heap_setCell _ _ _ _ (by simpa using hb), Below.heap_setCell _ _ _ _ (by simpa using hb)]
          exact h3 b hb
        · simpa using h4
      clear hK HH
      go_wp2
      go_roundw
      case rel =>
        refine ⟨i + 1, by omega, by rw [HK.out], by simp, ?_⟩
        simp only [Nat.add_assoc, Nat.reduceAdd]
        exact HW
      case measure => simp [intOf]; omega
    · obtain rfl : i = n := by omega
      go_wp2
      go_ret
      exact ⟨rfl, HH.out.1.congr fun a ha j _ => by simp [ha], HH.out.2⟩
set_option maxHeartbeats 3200000 in
theorem heldPt_some (g n cap k0 : Nat) (w : World) (hn : n ≤ 1048576) (hk0 : k0 ≤ 1000000) (hs : SegV w g 111 n 3 (fun i j => tcell (mpt (nK k0 i)) j)) :
    Calls Try.prog 93 #[.slice (some ⟨g, 0, none⟩) n cap, .int .i64 k0] w fun e w' => e = .returned (.int .i64 (nK k0 n)) ∧ w = w' := by
  have HS : Hid (SegV w g 111 n 3 (fun i j => tcell (mpt (nK k0 i)) j)) := hs
  clear hs
  have hnI : (n : Int) ≤ 1048576 := by omega
  have hkI : (k0 : Int) ≤ 1000000 := by omega
  go_enter Try.func93, Try.ntmps93
  go_wp2_with fail
  go_loopw [1, 5] (fun s1 s5 wr => wr = w ∧ ∃ i : Nat, i ≤ n ∧ s1 = .int .i64 (nK k0 i) ∧ s5 = .int .i64 i) (fun _ s5 _ => n - (intOf s5).toNat)
  case atStart => exact ⟨rfl, 0, Nat.zero_le _, by simp [nK], rfl⟩
  case round =>
    obtain ⟨rfl, i, hi, rfl, rfl⟩ := hrel
    by_cases hin : i < n
    · have hKn : nK k0 (i + 1) = nK k0 i + 1 + 1 + 1 := by unfold nK; omega
      have hK0 : 0 ≤ nK k0 i := by unfold nK; omega
      have hK1 : nK k0 i ≤ 50000000 := by unfold nK; omega
      have a0 : wr.cell? ⟨g, i * 3, none⟩ = some (.int .i64 (nK k0 i)) := HS.out.cell hin (show 0 < 3 by omega)
      have a1 : wr.cell? ⟨g, i * 3 + 1, none⟩ = some (.int .i64 (nK k0 i + 1)) := HS.out.cell hin (show 1 < 3 by omega)
      have a2 : wr.cell? ⟨g, i * 3 + 2, none⟩ = some (.int .i64 (nK k0 i + 1 + 1)) := HS.out.cell hin (show 2 < 3 by omega)
      generalize nK k0 i = K at hKn hK0 hK1 a0 a1 a2 ⊢
      have HK : Hid (nK k0 (i + 1) = K + 1 + 1 + 1) := hKn
      have hiI : (i : Int) < n := by omega
      clear hKn
      go_wp2
      go_roundw
      case rel => exact ⟨by trivial, i + 1, by omega, by rw [HK.out], by simp⟩
      case measure => simp [intOf]; omega
    · obtain rfl : i = n := by omega
      go_wp2
      go_ret
      exact ⟨rfl, rfl⟩
set_option maxHeartbeats 800000 in
theorem markPt_none (ao : Option Addr) (cap k0 : Nat) (w : World) : Calls Try.prog 92 #[.slice ao 0 cap, .int .i64 k0] w fun e w' => e = .returned (.int .i64 k0) ∧ w = w' := by
  go_enter Try.func92, Try.ntmps92
  go_wp2_with fail
  refine wp_loop_rounds 1 ?_
  rw [rounds_succ]
  go_wp2
  go_ret
  exact ⟨rfl, rfl⟩
set_option maxHeartbeats 800000 in
theorem heldPt_none (ao : Option Addr) (cap k0 : Nat) (w : World) : Calls Try.prog 93 #[.slice ao 0 cap, .int .i64 k0] w fun e w' => e = .returned (.int .i64 k0) ∧ w = w' := by
  go_enter Try.func93, Try.ntmps93
  go_wp2_with fail
  refine wp_loop_rounds 1 ?_
  rw [rounds_succ]
  go_wp2
  go_ret
  exact ⟨rfl, rfl⟩
end Go.Proofs.Ytkkajcdjkfbcgaa
