/- The laws' own copies and comparisons of lists of complex numbers: contracts. -/
import Derived.Test.YtgidoceflkdklaaMrow
import Derived.Handy
import Derived.Deep.RegionHeld3
namespace Go.Proofs.Ytgidoceflkdklaa
open Go.RowKit Fl
set_option linter.unusedVariables false
set_option linter.unusedSimpArgs false
theorem info28 : (Try.prog.info? 75).map (fun i => (i.zero, i.size, i.bytes)) = some (some (Zv 0 0), 2, 16) := by kernel_rfl
theorem make28 (n : Nat) (hn : n ≤ 1000000000000) (w : World) : (Instr.makeSlice 34 (.int .i64 (n : Int)) (.int .i64 (n : Int))).run Try.prog w = .ok (.slice (some ⟨w.heap.size, 0, none⟩) n n) (w.alloc (.cells (madeCells #[.float .f64 0, .float .f64 0] (n * 2)) 75)) := by
  obtain ⟨i, hi, hzz⟩ := Option.map_eq_some_iff.1 info28
  simp only [Prod.mk.injEq] at hzz
  obtain ⟨hz, hs, hb⟩ := hzz
  have hr := run_make (P := Try.prog) w 34 75 i _ Try.underlying34 hi hz .i64 .i64 n n (by omega) (Int.le_refl _) (by rw [hb]; omega) (by omega)
  rw [hs] at hr
  simpa [Value.cells] using hr
theorem seg_made28 (w : World) (n : Nat) : SegM (w.alloc (.cells (madeCells #[.float .f64 0, .float .f64 0] (n * 2)) 75)) w.heap.size 75 n 2 (fun _ _ => 0) := by
  refine ⟨madeCells #[.float .f64 0, .float .f64 0] (n * 2), by show (w.heap.push _)[w.heap.size]? = _; simp, fun i hi j hj => ?_⟩
  rw [made_cell (idx_lt hj hi)]
  have e : (i * 2 + j) % 2 = j := by omega
  simp only [List.size_toArray, List.length_cons, List.length_nil, Nat.zero_add, Nat.reduceAdd, e]
  match j, hj with
  | 0, _ => rfl
  | 1, _ => rfl
set_option maxHeartbeats 1600000 in
theorem to28_some (b off n cap : Nat) (f : Nat → Nat → Nat) (w : World) (hn : n ≤ 1000000000000) (hc : ∀ i, i < n → ∀ j, j < 2 → w.cell? ⟨b, off + i * 2 + j, none⟩ = some (.float .f64 (f i j))) :
    Calls Try.prog 21 #[.slice (some ⟨b, off, none⟩) n cap] w fun e w' => e = .returned (.slice (some ⟨w.heap.size, 0, none⟩) n n) ∧ SegM w' w.heap.size 75 n 2 f ∧ Below w.heap.size w w' := by
  have hmk := make28 n hn
  have later : ∀ (wr : World) (p : Addr) {v : Value}, w.cell? p = some v → Below w.heap.size w wr → wr.cell? p = some v := fun wr p v h hb => (hb.cell (World.block_lt_of_cell? _ _ h)).trans h
  go_enter Try.func21, Try.ntmps21
  go_wp2_with fail
  clear hmk
  go_loopw [4] (fun i wr => ∃ k : Nat, k ≤ n ∧ i = .int .i64 k ∧ SegM wr w.heap.size 75 n 2 (fun i j => if i < k then f i j else 0) ∧ Below w.heap.size w wr) (fun i _ => n - (intOf i).toNat)
  case atStart => exact ⟨0, Nat.zero_le _, rfl, (seg_made28 w n).congr (fun i _ j _ => by simp), (Below.refl _ _).alloc (Nat.le_refl _) _⟩
  case round =>
    obtain ⟨k, hk, rfl, hs, hb⟩ := hrel
    by_cases hkn : k < n
    · have HS : Hid (SegM wr w.heap.size 75 n 2 (fun i j => if i < k then f i j else 0) ∧ Below w.heap.size w wr) := ⟨hs, hb⟩
      have g0 : wr.cell? ⟨b, off + k * 2, none⟩ = some (.float .f64 (f k 0)) := later _ _ (hc k hkn 0 (by omega)) hb
      have g1 : wr.cell? ⟨b, off + k * 2 + 1, none⟩ = some (.float .f64 (f k 1)) := later _ _ (hc k hkn 1 (by omega)) hb
      clear hs hb hc later
      have hst := st64
      go_wp2_with fail
      refine (toZ_any _ _ _).mono ?_
      rintro e w1 ⟨rfl, hb1⟩
      obtain ⟨hs, hb⟩ := HS.out
      have e0 : w1.cell? ⟨w.heap.size, k * 2, none⟩ = some (.float .f64 0) := by have := (hs.below hb1).cell hkn (show 0 < 2 by omega); simpa using this
      have e1 : w1.cell? ⟨w.heap.size, k * 2 + 1, none⟩ = some (.float .f64 0) := by have := (hs.below hb1).cell hkn (show 1 < 2 by omega); simpa using this
      have ef : ∀ j, w1.frozen? ⟨w.heap.size, j, none⟩ = false := fun j => (hs.below hb1).frozen j
      have HB : Hid (Below wr.heap.size wr w1) := hb1
      clear hs hb hb1 g0 g1
      go_wp2
      go_roundw
      case rel =>
        obtain ⟨hs, hb⟩ := HS.out
        have hb1 := HB.out
        have t0 := SegM.set (hs.below hb1) hkn (show 0 < 2 by omega) (f k 0)
        have t1 := SegM.set (t0) hkn (show 1 < 2 by omega) (f k 1)
        refine ⟨k + 1, by omega, by simp, (t1.congr fun i hi j hj => ?_), (((box_step hb hb1 (Nat.le_refl _)).setCell (Nat.le_refl _) _).setCell (Nat.le_refl _) _)⟩
        by_cases e : i = k
        · subst e
          match j, hj with
          | 0, _ => simp
          | 1, _ => simp
        · by_cases e2 : i < k
          · simp [e, e2, Nat.lt_succ_of_lt e2]
          · simp [e, e2]; intro h; omega
      case measure => simp [intOf]; omega
    · obtain rfl : k = n := by omega
      clear hc later
      go_wp2
      go_ret
      exact ⟨rfl, hs.congr fun i hi j hj => by simp [hi], hb⟩
set_option maxHeartbeats 800000 in
theorem to28_none (ao : Option Addr) (cap : Nat) (f : Nat → Nat → Nat) (w : World) :
    Calls Try.prog 21 #[.slice ao 0 cap] w fun e w' => e = .returned (.slice (some ⟨w.heap.size, 0, none⟩) 0 0) ∧ SegM w' w.heap.size 75 0 2 f ∧ Below w.heap.size w w' := by
  have hmk := make28 0 (by omega)
  rw [show ((0 : Nat) : Int) = 0 from rfl] at hmk
  have hS := seg_made28 w 0
  have hB : Below w.heap.size w (w.alloc (.cells (madeCells #[.float .f64 0, .float .f64 0] (0 * 2)) 75)) := (Below.refl _ _).alloc (Nat.le_refl _) _
  go_enter Try.func21, Try.ntmps21
  go_wp2_with fail
  refine wp_loop_rounds 1 ?_
  rw [rounds_succ]
  go_wp2
  go_ret
  exact ⟨rfl, hS.congr fun i hi => absurd hi (Nat.not_lt_zero _), hB⟩
theorem to28_any {w : World} {v : Value} {n : Nat} {f : Nat → Nat → Nat} (h : RdM w v n 2 f) (hn : n ≤ 1000000000000) :
    Calls Try.prog 21 #[v] w fun e w' => e = .returned (.slice (some ⟨w.heap.size, 0, none⟩) n n) ∧ SegM w' w.heap.size 75 n 2 f ∧ Below w.heap.size w w' := by
  rcases h with ⟨ao, cap, rfl, rfl⟩ | ⟨b, off, cap, rfl, hc⟩
  · exact to28_none ao cap f w
  · exact to28_some b off n cap f w hn hc
set_option maxHeartbeats 1600000 in
theorem eq28_same (b cap b' cap' n : Nat) (f : Nat → Nat → Nat) (w : World) (hn : n ≤ 1000000000000) (hs : SegM w b 75 n 2 f) (ht : SegM w b' 75 n 2 f) (hf : ∀ i, i < n → Zc (f i 0) (f i 1) (cl (f i 0), cl (f i 1))) :
    Calls Try.prog 24 #[.slice (some ⟨b, 0, none⟩) n cap, .slice (some ⟨b', 0, none⟩) n cap'] w fun e w' => e = .returned (.bool true) ∧ Below w.heap.size w w' := by
  have later : ∀ (wr : World) (p : Addr) {v : Value}, w.cell? p = some v → Below w.heap.size w wr → wr.cell? p = some v := fun wr p v h hb => (hb.cell (World.block_lt_of_cell? _ _ h)).trans h
  have HF : Hid (∀ i, i < n → Zc (f i 0) (f i 1) (cl (f i 0), cl (f i 1))) := hf
  clear hf
  go_enter Try.func24, Try.ntmps24
  go_wp2_with fail
  go_loopw [5] (fun i wr => ∃ k : Nat, k ≤ n ∧ i = .int .i64 k ∧ Below w.heap.size w wr) (fun i _ => n - (intOf i).toNat)
  case atStart => exact ⟨0, Nat.zero_le _, rfl, Below.refl _ _⟩
  case round =>
    obtain ⟨k, hk, rfl, hb⟩ := hrel
    by_cases hkn : k < n
    · have HZ := HF.out k hkn
      have p0 : ∀ W, Below w.heap.size w W → W.cell? ⟨b, k * 2, none⟩ = some (.float .f64 (f k 0)) := fun W h => later W _ (hs.cell hkn (show 0 < 2 by omega)) h
      have q0 : ∀ W, Below w.heap.size w W → W.cell? ⟨b', k * 2, none⟩ = some (.float .f64 (f k 0)) := fun W h => later W _ (ht.cell hkn (show 0 < 2 by omega)) h
      have p1 : ∀ W, Below w.heap.size w W → W.cell? ⟨b, k * 2 + 1, none⟩ = some (.float .f64 (f k 1)) := fun W h => later W _ (hs.cell hkn (show 1 < 2 by omega)) h
      have q1 : ∀ W, Below w.heap.size w W → W.cell? ⟨b', k * 2 + 1, none⟩ = some (.float .f64 (f k 1)) := fun W h => later W _ (ht.cell hkn (show 1 < 2 by omega)) h
      clear hs ht later HF
      go_wp2_with fail
      go_region_held (fun W => Below w.heap.size w W) (first | assumption | exact Below.drew ‹_›)
        (first | (go_at_call 63; refine (eqZ_same HZ HZ _).mono ?_; rintro e w1 ⟨rfl, hb1⟩; have hR1 := box_step ‹_› hb1 (Nat.le_refl _)))
      have HB : Hid (Below w.heap.size w w1) := hR1
      clear hR1 hb1 p0 q0 p1 q1
      go_wp2
      go_roundw
      case rel => exact ⟨k + 1, by omega, by simp, HB.out⟩
      case measure => simp [intOf]; omega
    · obtain rfl : k = n := by omega
      clear hs ht later HF
      go_wp2
      go_ret
      exact ⟨rfl, hb⟩
end Go.Proofs.Ytgidoceflkdklaa
