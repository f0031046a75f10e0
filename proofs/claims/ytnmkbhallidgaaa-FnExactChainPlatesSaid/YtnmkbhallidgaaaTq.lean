/- The laws' own copies and comparisons of lists of plates; chains of plates: contracts of the specification's and the program's. -/
import Derived.Test.YtnmkbhallidgaaaTp
import Derived.Test.YtnmkbhallidgaaaZpm
import Derived.Handy
import Derived.Deep.RegionHeld3
namespace Go.Proofs.Ytnmkbhallidgaaa
open Go.RowKit Fl
set_option linter.unusedVariables false
set_option linter.unusedSimpArgs false
theorem info54 : (Try.prog.info? 54).map (fun i => (i.zero, i.size, i.bytes)) = some (some (Pv 0 0 0 0 0 0 0 0), 8, 64) := by kernel_rfl
theorem make54 (n : Nat) (hn : n ≤ 1000000000000) (w : World) : (Instr.makeSlice 65 (.int .i64 (n : Int)) (.int .i64 (n : Int))).run Try.prog w = .ok (.slice (some ⟨w.heap.size, 0, none⟩) n n) (w.alloc (.cells (madeCells #[.float .f64 0, .float .f64 0, .float .f64 0, .float .f64 0, .float .f64 0, .float .f64 0, .float .f64 0, .float .f64 0] (n * 8)) 54)) := by
  obtain ⟨i, hi, hzz⟩ := Option.map_eq_some_iff.1 info54
  simp only [Prod.mk.injEq] at hzz
  obtain ⟨hz, hs, hb⟩ := hzz
  have hr := run_make (P := Try.prog) w 65 54 i _ Try.underlying65 hi hz .i64 .i64 n n (by omega) (Int.le_refl _) (by rw [hb]; omega) (by omega)
  rw [hs] at hr
  simpa [Value.cells] using hr
theorem seg_made54 (w : World) (n : Nat) : SegM (w.alloc (.cells (madeCells #[.float .f64 0, .float .f64 0, .float .f64 0, .float .f64 0, .float .f64 0, .float .f64 0, .float .f64 0, .float .f64 0] (n * 8)) 54)) w.heap.size 54 n 8 (fun _ _ => 0) := by
  refine ⟨madeCells #[.float .f64 0, .float .f64 0, .float .f64 0, .float .f64 0, .float .f64 0, .float .f64 0, .float .f64 0, .float .f64 0] (n * 8), by show (w.heap.push _)[w.heap.size]? = _; simp, fun i hi j hj => ?_⟩
  rw [made_cell (idx_lt hj hi)]
  have e : (i * 8 + j) % 8 = j := by omega
  simp only [List.size_toArray, List.length_cons, List.length_nil, Nat.zero_add, Nat.reduceAdd, e]
  match j, hj with
  | 0, _ => rfl
  | 1, _ => rfl
  | 2, _ => rfl
  | 3, _ => rfl
  | 4, _ => rfl
  | 5, _ => rfl
  | 6, _ => rfl
  | 7, _ => rfl
set_option maxHeartbeats 1600000 in
theorem to54_some (b off n cap : Nat) (f : Nat → Nat → Nat) (w : World) (hn : n ≤ 1000000000000) (hc : ∀ i, i < n → ∀ j, j < 8 → w.cell? ⟨b, off + i * 8 + j, none⟩ = some (.float .f64 (f i j))) :
    Calls Try.prog 54 #[.slice (some ⟨b, off, none⟩) n cap] w fun e w' => e = .returned (.slice (some ⟨w.heap.size, 0, none⟩) n n) ∧ SegM w' w.heap.size 54 n 8 f ∧ Below w.heap.size w w' := by
  have hmk := make54 n hn
  have later : ∀ (wr : World) (p : Addr) {v : Value}, w.cell? p = some v → Below w.heap.size w wr → wr.cell? p = some v := fun wr p v h hb => (hb.cell (World.block_lt_of_cell? _ _ h)).trans h
  go_enter Try.func54, Try.ntmps54
  go_wp2_with fail
  clear hmk
  go_loopw [4] (fun i wr => ∃ k : Nat, k ≤ n ∧ i = .int .i64 k ∧ SegM wr w.heap.size 54 n 8 (fun i j => if i < k then f i j else 0) ∧ Below w.heap.size w wr) (fun i _ => n - (intOf i).toNat)
  case atStart => exact ⟨0, Nat.zero_le _, rfl, (seg_made54 w n).congr (fun i _ j _ => by simp), (Below.refl _ _).alloc (Nat.le_refl _) _⟩
  case round =>
    obtain ⟨k, hk, rfl, hs, hb⟩ := hrel
    by_cases hkn : k < n
    · have HS : Hid (SegM wr w.heap.size 54 n 8 (fun i j => if i < k then f i j else 0) ∧ Below w.heap.size w wr) := ⟨hs, hb⟩
      have g0 : wr.cell? ⟨b, off + k * 8, none⟩ = some (.float .f64 (f k 0)) := later _ _ (hc k hkn 0 (by omega)) hb
      have g1 : wr.cell? ⟨b, off + k * 8 + 1, none⟩ = some (.float .f64 (f k 1)) := later _ _ (hc k hkn 1 (by omega)) hb
      have g2 : wr.cell? ⟨b, off + k * 8 + 2, none⟩ = some (.float .f64 (f k 2)) := later _ _ (hc k hkn 2 (by omega)) hb
      have g3 : wr.cell? ⟨b, off + k * 8 + 3, none⟩ = some (.float .f64 (f k 3)) := later _ _ (hc k hkn 3 (by omega)) hb
      have g4 : wr.cell? ⟨b, off + k * 8 + 4, none⟩ = some (.float .f64 (f k 4)) := later _ _ (hc k hkn 4 (by omega)) hb
      have g5 : wr.cell? ⟨b, off + k * 8 + 5, none⟩ = some (.float .f64 (f k 5)) := later _ _ (hc k hkn 5 (by omega)) hb
      have g6 : wr.cell? ⟨b, off + k * 8 + 6, none⟩ = some (.float .f64 (f k 6)) := later _ _ (hc k hkn 6 (by omega)) hb
      have g7 : wr.cell? ⟨b, off + k * 8 + 7, none⟩ = some (.float .f64 (f k 7)) := later _ _ (hc k hkn 7 (by omega)) hb
      clear hs hb hc later
      have hst := st64
      go_wp2_with fail
      refine (toP_any _ _ _ _ _ _ _ _ _).mono ?_
      rintro e w1 ⟨rfl, hb1⟩
      obtain ⟨hs, hb⟩ := HS.out
      have e0 : w1.cell? ⟨w.heap.size, k * 8, none⟩ = some (.float .f64 0) := by have := (hs.below hb1).cell hkn (show 0 < 8 by omega); simpa using this
      have e1 : w1.cell? ⟨w.heap.size, k * 8 + 1, none⟩ = some (.float .f64 0) := by have := (hs.below hb1).cell hkn (show 1 < 8 by omega); simpa using this
      have e2 : w1.cell? ⟨w.heap.size, k * 8 + 2, none⟩ = some (.float .f64 0) := by have := (hs.below hb1).cell hkn (show 2 < 8 by omega); simpa using this
      have e3 : w1.cell? ⟨w.heap.size, k * 8 + 3, none⟩ = some (.float .f64 0) := by have := (hs.below hb1).cell hkn (show 3 < 8 by omega); simpa using this
      have e4 : w1.cell? ⟨w.heap.size, k * 8 + 4, none⟩ = some (.float .f64 0) := by have := (hs.below hb1).cell hkn (show 4 < 8 by omega); simpa using this
      have e5 : w1.cell? ⟨w.heap.size, k * 8 + 5, none⟩ = some (.float .f64 0) := by have := (hs.below hb1).cell hkn (show 5 < 8 by omega); simpa using this
      have e6 : w1.cell? ⟨w.heap.size, k * 8 + 6, none⟩ = some (.float .f64 0) := by have := (hs.below hb1).cell hkn (show 6 < 8 by omega); simpa using this
      have e7 : w1.cell? ⟨w.heap.size, k * 8 + 7, none⟩ = some (.float .f64 0) := by have := (hs.below hb1).cell hkn (show 7 < 8 by omega); simpa using this
      have ef : ∀ j, w1.frozen? ⟨w.heap.size, j, none⟩ = false := fun j => (hs.below hb1).frozen j
      have HB : Hid (Below wr.heap.size wr w1) := hb1
      clear hs hb hb1 g0 g1 g2 g3 g4 g5 g6 g7
      go_wp2
      go_roundw
      case rel =>
        obtain ⟨hs, hb⟩ := HS.out
        have hb1 := HB.out
        have t0 := SegM.set (hs.below hb1) hkn (show 0 < 8 by omega) (f k 0)
        have t1 := SegM.set (t0) hkn (show 1 < 8 by omega) (f k 1)
        have t2 := SegM.set (t1) hkn (show 2 < 8 by omega) (f k 2)
        have t3 := SegM.set (t2) hkn (show 3 < 8 by omega) (f k 3)
        have t4 := SegM.set (t3) hkn (show 4 < 8 by omega) (f k 4)
        have t5 := SegM.set (t4) hkn (show 5 < 8 by omega) (f k 5)
        have t6 := SegM.set (t5) hkn (show 6 < 8 by omega) (f k 6)
        have t7 := SegM.set (t6) hkn (show 7 < 8 by omega) (f k 7)
        refine ⟨k + 1, by omega, by simp, (t7.congr fun i hi j hj => ?_), (((((((((box_step hb hb1 (Nat.le_refl _)).setCell (Nat.le_refl _) _).setCell (Nat.le_refl _) _).setCell (Nat.le_refl _) _).setCell (Nat.le_refl _) _).setCell (Nat.le_refl _) _).setCell (Nat.le_refl _) _).setCell (Nat.le_refl _) _).setCell (Nat.le_refl _) _)⟩
        by_cases e : i = k
        · subst e
          match j, hj with
          | 0, _ => simp
          | 1, _ => simp
          | 2, _ => simp
          | 3, _ => simp
          | 4, _ => simp
          | 5, _ => simp
          | 6, _ => simp
          | 7, _ => simp
        · by_cases e2 : i < k
          · simp [e, e2, Nat.lt_succ_of_lt e2]
          · simp [e, e2]; intro h; omega
      case measure => simp [intOf]; omega
    · obtain rfl : k = n := by omega
      clear hc later
      go_wp2
      go_ret
      exact ⟨rfl, hs.congr fun i hi j hj => by simp [hi], hb⟩
set_option maxHeartbeats 800000 in
theorem to54_none (ao : Option Addr) (cap : Nat) (f : Nat → Nat → Nat) (w : World) :
    Calls Try.prog 54 #[.slice ao 0 cap] w fun e w' => e = .returned (.slice (some ⟨w.heap.size, 0, none⟩) 0 0) ∧ SegM w' w.heap.size 54 0 8 f ∧ Below w.heap.size w w' := by
  have hmk := make54 0 (by omega)
  rw [show ((0 : Nat) : Int) = 0 from rfl] at hmk
  have hS := seg_made54 w 0
  have hB : Below w.heap.size w (w.alloc (.cells (madeCells #[.float .f64 0, .float .f64 0, .float .f64 0, .float .f64 0, .float .f64 0, .float .f64 0, .float .f64 0, .float .f64 0] (0 * 8)) 54)) := (Below.refl _ _).alloc (Nat.le_refl _) _
  go_enter Try.func54, Try.ntmps54
  go_wp2_with fail
  refine wp_loop_rounds 1 ?_
  rw [rounds_succ]
  go_wp2
  go_ret
  exact ⟨rfl, hS.congr fun i hi => absurd hi (Nat.not_lt_zero _), hB⟩
theorem to54_any {w : World} {v : Value} {n : Nat} {f : Nat → Nat → Nat} (h : RdM w v n 8 f) (hn : n ≤ 1000000000000) :
    Calls Try.prog 54 #[v] w fun e w' => e = .returned (.slice (some ⟨w.heap.size, 0, none⟩) n n) ∧ SegM w' w.heap.size 54 n 8 f ∧ Below w.heap.size w w' := by
  rcases h with ⟨ao, cap, rfl, rfl⟩ | ⟨b, off, cap, rfl, hc⟩
  · exact to54_none ao cap f w
  · exact to54_some b off n cap f w hn hc
set_option maxHeartbeats 1600000 in
theorem eq54_same (b cap b' cap' n : Nat) (f : Nat → Nat → Nat) (w : World) (hn : n ≤ 1000000000000) (hs : SegM w b 54 n 8 f) (ht : SegM w b' 54 n 8 f) (hf : ∀ i, i < n → Pc (f i 0) (f i 1) (f i 2) (f i 3) (f i 4) (f i 5) (f i 6) (f i 7) (clP (f i))) :
    Calls Try.prog 56 #[.slice (some ⟨b, 0, none⟩) n cap, .slice (some ⟨b', 0, none⟩) n cap'] w fun e w' => e = .returned (.bool true) ∧ Below w.heap.size w w' := by
  have later : ∀ (wr : World) (p : Addr) {v : Value}, w.cell? p = some v → Below w.heap.size w wr → wr.cell? p = some v := fun wr p v h hb => (hb.cell (World.block_lt_of_cell? _ _ h)).trans h
  have HF : Hid (∀ i, i < n → Pc (f i 0) (f i 1) (f i 2) (f i 3) (f i 4) (f i 5) (f i 6) (f i 7) (clP (f i))) := hf
  clear hf
  go_enter Try.func56, Try.ntmps56
  go_wp2_with fail
  go_loopw [5] (fun i wr => ∃ k : Nat, k ≤ n ∧ i = .int .i64 k ∧ Below w.heap.size w wr) (fun i _ => n - (intOf i).toNat)
  case atStart => exact ⟨0, Nat.zero_le _, rfl, Below.refl _ _⟩
  case round =>
    obtain ⟨k, hk, rfl, hb⟩ := hrel
    by_cases hkn : k < n
    · have HZ := HF.out k hkn
      have p0 : ∀ W, Below w.heap.size w W → W.cell? ⟨b, k * 8, none⟩ = some (.float .f64 (f k 0)) := fun W h => later W _ (hs.cell hkn (show 0 < 8 by omega)) h
      have q0 : ∀ W, Below w.heap.size w W → W.cell? ⟨b', k * 8, none⟩ = some (.float .f64 (f k 0)) := fun W h => later W _ (ht.cell hkn (show 0 < 8 by omega)) h
      have p1 : ∀ W, Below w.heap.size w W → W.cell? ⟨b, k * 8 + 1, none⟩ = some (.float .f64 (f k 1)) := fun W h => later W _ (hs.cell hkn (show 1 < 8 by omega)) h
      have q1 : ∀ W, Below w.heap.size w W → W.cell? ⟨b', k * 8 + 1, none⟩ = some (.float .f64 (f k 1)) := fun W h => later W _ (ht.cell hkn (show 1 < 8 by omega)) h
      have p2 : ∀ W, Below w.heap.size w W → W.cell? ⟨b, k * 8 + 2, none⟩ = some (.float .f64 (f k 2)) := fun W h => later W _ (hs.cell hkn (show 2 < 8 by omega)) h
      have q2 : ∀ W, Below w.heap.size w W → W.cell? ⟨b', k * 8 + 2, none⟩ = some (.float .f64 (f k 2)) := fun W h => later W _ (ht.cell hkn (show 2 < 8 by omega)) h
      have p3 : ∀ W, Below w.heap.size w W → W.cell? ⟨b, k * 8 + 3, none⟩ = some (.float .f64 (f k 3)) := fun W h => later W _ (hs.cell hkn (show 3 < 8 by omega)) h
      have q3 : ∀ W, Below w.heap.size w W → W.cell? ⟨b', k * 8 + 3, none⟩ = some (.float .f64 (f k 3)) := fun W h => later W _ (ht.cell hkn (show 3 < 8 by omega)) h
      have p4 : ∀ W, Below w.heap.size w W → W.cell? ⟨b, k * 8 + 4, none⟩ = some (.float .f64 (f k 4)) := fun W h => later W _ (hs.cell hkn (show 4 < 8 by omega)) h
      have q4 : ∀ W, Below w.heap.size w W → W.cell? ⟨b', k * 8 + 4, none⟩ = some (.float .f64 (f k 4)) := fun W h => later W _ (ht.cell hkn (show 4 < 8 by omega)) h
      have p5 : ∀ W, Below w.heap.size w W → W.cell? ⟨b, k * 8 + 5, none⟩ = some (.float .f64 (f k 5)) := fun W h => later W _ (hs.cell hkn (show 5 < 8 by omega)) h
      have q5 : ∀ W, Below w.heap.size w W → W.cell? ⟨b', k * 8 + 5, none⟩ = some (.float .f64 (f k 5)) := fun W h => later W _ (ht.cell hkn (show 5 < 8 by omega)) h
      have p6 : ∀ W, Below w.heap.size w W → W.cell? ⟨b, k * 8 + 6, none⟩ = some (.float .f64 (f k 6)) := fun W h => later W _ (hs.cell hkn (show 6 < 8 by omega)) h
      have q6 : ∀ W, Below w.heap.size w W → W.cell? ⟨b', k * 8 + 6, none⟩ = some (.float .f64 (f k 6)) := fun W h => later W _ (ht.cell hkn (show 6 < 8 by omega)) h
      have p7 : ∀ W, Below w.heap.size w W → W.cell? ⟨b, k * 8 + 7, none⟩ = some (.float .f64 (f k 7)) := fun W h => later W _ (hs.cell hkn (show 7 < 8 by omega)) h
      have q7 : ∀ W, Below w.heap.size w W → W.cell? ⟨b', k * 8 + 7, none⟩ = some (.float .f64 (f k 7)) := fun W h => later W _ (ht.cell hkn (show 7 < 8 by omega)) h
      clear hs ht later HF
      go_wp2_with fail
      go_region_held (fun W => Below w.heap.size w W) (first | assumption | exact Below.drew ‹_›)
        (first | (go_at_call 47; refine (eqP_same HZ HZ _).mono ?_; rintro e w1 ⟨rfl, hb1⟩; have hR1 := box_step ‹_› hb1 (Nat.le_refl _)))
      have HB : Hid (Below w.heap.size w w1) := hR1
      clear hR1 hb1 p0 q0 p1 q1 p2 q2 p3 q3 p4 q4 p5 q5 p6 q6 p7 q7
      go_wp2
      go_roundw
      case rel => exact ⟨k + 1, by omega, by simp, HB.out⟩
      case measure => simp [intOf]; omega
    · obtain rfl : k = n := by omega
      clear hs ht later HF
      go_wp2
      go_ret
      exact ⟨rfl, hb⟩
end Go.Proofs.Ytnmkbhallidgaaa
