/- Cells, and lists of them: the laws' own copies, counts and comparisons. -/
import Derived.Test.YtboppklcmdfphaaVr
import Derived.Test.YtboppklcmdfphaaPg
import Derived.Handy
import Derived.Deep.RegionHeld3
namespace Go.Proofs.Ytboppklcmdfphaa
open Go.RowKit
set_option linter.unusedVariables false
set_option linter.unusedSimpArgs false
abbrev Ce := Rm.Ce
def ccell (g : Ce) : Nat → Value
  | 0 => .int .i64 g.i
  | 1 => .int .i64 g.j
  | 2 => .int .i64 g.a
  | 3 => .int .i64 g.b
  | 4 => .int .i64 g.c
  | _ => .int .i64 g.d
def zc : Ce := Rm.nilC
set_option maxRecDepth 20000 in
set_option maxHeartbeats 1600000 in
theorem toCell_any (g : Ce) (w : World) : Calls Try.prog 98 #[.agg #[.int .i64 g.i, .int .i64 g.j, .int .i64 g.a, .int .i64 g.b, .int .i64 g.c, .int .i64 g.d]] w fun e w' => e = .returned (.agg #[.int .i64 g.i, .int .i64 g.j, .int .i64 g.a, .int .i64 g.b, .int .i64 g.c, .int .i64 g.d]) ∧ Below w.heap.size w w' := by
  go_enter Try.func98, Try.ntmps98
  go_wp2
  refine bodyPost_ret (v := .agg #[.int .i64 g.i, .int .i64 g.j, .int .i64 g.a, .int .i64 g.b, .int .i64 g.c, .int .i64 g.d]) (by simp [results, Try.results98, go_sem]) rfl ⟨rfl, ?_⟩
  go_grown
set_option maxRecDepth 20000 in
set_option maxHeartbeats 1600000 in
theorem eqCell_same (g : Ce) (w : World) : Calls Try.prog 101 #[.agg #[.int .i64 g.i, .int .i64 g.j, .int .i64 g.a, .int .i64 g.b, .int .i64 g.c, .int .i64 g.d], .agg #[.int .i64 g.i, .int .i64 g.j, .int .i64 g.a, .int .i64 g.b, .int .i64 g.c, .int .i64 g.d]] w fun e w' => e = .returned (.bool true) ∧ Below w.heap.size w w' := by
  go_enter Try.func101, Try.ntmps101
  go_wp2
  go_ret
  exact ⟨rfl, by go_grown⟩
theorem infoCe : (Try.prog.info? 77).map (fun i => (i.zero, i.size, i.bytes)) = some (some (.agg #[.int .i64 0, .int .i64 0, .int .i64 0, .int .i64 0, .int .i64 0, .int .i64 0]), 6, 48) := by kernel_rfl
theorem makeCe (n : Nat) (hn : n ≤ 1000000000) (w : World) : (Instr.makeSlice 47 (.int .i64 (n : Int)) (.int .i64 (n : Int))).run Try.prog w = .ok (.slice (some ⟨w.heap.size, 0, none⟩) n n) (w.alloc (.cells (madeCells #[.int .i64 0, .int .i64 0, .int .i64 0, .int .i64 0, .int .i64 0, .int .i64 0] (n * 6)) 77)) := by
  obtain ⟨i, hi, hzz⟩ := Option.map_eq_some_iff.1 infoCe
  simp only [Prod.mk.injEq] at hzz
  obtain ⟨hz, hs, hb⟩ := hzz
  have hr := run_make (P := Try.prog) w 47 77 i _ Try.underlying47 hi hz .i64 .i64 n n (by omega) (Int.le_refl _) (by rw [hb]; omega) (by omega)
  rw [hs] at hr
  simpa [Value.cells] using hr
theorem segmadeCe (w : World) (n : Nat) : SegV (w.alloc (.cells (madeCells #[.int .i64 0, .int .i64 0, .int .i64 0, .int .i64 0, .int .i64 0, .int .i64 0] (n * 6)) 77)) w.heap.size 77 n 6 (fun _ j => ccell zc j) := by
  refine ⟨madeCells #[.int .i64 0, .int .i64 0, .int .i64 0, .int .i64 0, .int .i64 0, .int .i64 0] (n * 6), by show (w.heap.push _)[w.heap.size]? = _; simp, fun i hi j hj => ?_⟩
  rw [made_cell (idx_lt hj hi)]
  have e : (i * 6 + j) % 6 = j := by omega
  simp only [List.size_toArray, List.length_cons, List.length_nil, Nat.zero_add, Nat.reduceAdd, e]
  match j, hj with
  | 0, _ => rfl
  | 1, _ => rfl
  | 2, _ => rfl
  | 3, _ => rfl
  | 4, _ => rfl
  | 5, _ => rfl
set_option maxRecDepth 20000 in
set_option maxHeartbeats 3200000 in
theorem toCes_some (b off n cap : Nat) (G : Nat → Ce) (w : World) (hn : n ≤ 1000000000) (hc : ∀ i, i < n → ∀ j, j < 6 → w.cell? ⟨b, off + i * 6 + j, none⟩ = some (ccell (G i) j)) :
    Calls Try.prog 68 #[.slice (some ⟨b, off, none⟩) n cap] w fun e w' => e = .returned (.slice (some ⟨w.heap.size, 0, none⟩) n n) ∧ SegV w' w.heap.size 77 n 6 (fun i j => ccell (G i) j) ∧ Below w.heap.size w w' := by
  have hmk := makeCe n hn
  have later : ∀ (wr : World) (p : Addr) {v : Value}, w.cell? p = some v → Below w.heap.size w wr → wr.cell? p = some v := fun wr p v h hb => (hb.cell (World.block_lt_of_cell? _ _ h)).trans h
  go_enter Try.func68, Try.ntmps68
  go_wp2_with fail
  clear hmk
  go_loopw [4] (fun i wr => ∃ k : Nat, k ≤ n ∧ i = .int .i64 k ∧ SegV wr w.heap.size 77 n 6 (fun i j => if i < k then ccell (G i) j else ccell zc j) ∧ Below w.heap.size w wr) (fun i _ => n - (intOf i).toNat)
  case atStart => exact ⟨0, Nat.zero_le _, rfl, (segmadeCe w n).congr (fun i _ j _ => by simp), (Below.refl _ _).alloc (Nat.le_refl _) _⟩
  case round =>
    obtain ⟨k, hk, rfl, hs, hb⟩ := hrel
    by_cases hkn : k < n
    · have HS : Hid (SegV wr w.heap.size 77 n 6 (fun i j => if i < k then ccell (G i) j else ccell zc j) ∧ Below w.heap.size w wr) := ⟨hs, hb⟩
      have g0 : wr.cell? ⟨b, off + k * 6, none⟩ = some (.int .i64 (G k).i) := later _ _ (hc k hkn 0 (by omega)) hb
      have g1 : wr.cell? ⟨b, off + k * 6 + 1, none⟩ = some (.int .i64 (G k).j) := later _ _ (hc k hkn 1 (by omega)) hb
      have g2 : wr.cell? ⟨b, off + k * 6 + 2, none⟩ = some (.int .i64 (G k).a) := later _ _ (hc k hkn 2 (by omega)) hb
      have g3 : wr.cell? ⟨b, off + k * 6 + 3, none⟩ = some (.int .i64 (G k).b) := later _ _ (hc k hkn 3 (by omega)) hb
      have g4 : wr.cell? ⟨b, off + k * 6 + 4, none⟩ = some (.int .i64 (G k).c) := later _ _ (hc k hkn 4 (by omega)) hb
      have g5 : wr.cell? ⟨b, off + k * 6 + 5, none⟩ = some (.int .i64 (G k).d) := later _ _ (hc k hkn 5 (by omega)) hb
      clear hs hb hc later
      go_wp2_with fail
      refine (toCell_any (G k) _).mono ?_
      rintro e w1 ⟨rfl, hb1⟩
      obtain ⟨hs, hb⟩ := HS.out
      have e0 : w1.cell? ⟨w.heap.size, k * 6, none⟩ = some (.int .i64 0) := by have := (hs.below hb1).cell hkn (show 0 < 6 by omega); simpa [ccell, zc, Rm.nilC] using this
      have e1 : w1.cell? ⟨w.heap.size, k * 6 + 1, none⟩ = some (.int .i64 0) := by have := (hs.below hb1).cell hkn (show 1 < 6 by omega); simpa [ccell, zc, Rm.nilC] using this
      have e2 : w1.cell? ⟨w.heap.size, k * 6 + 2, none⟩ = some (.int .i64 0) := by have := (hs.below hb1).cell hkn (show 2 < 6 by omega); simpa [ccell, zc, Rm.nilC] using this
      have e3 : w1.cell? ⟨w.heap.size, k * 6 + 3, none⟩ = some (.int .i64 0) := by have := (hs.below hb1).cell hkn (show 3 < 6 by omega); simpa [ccell, zc, Rm.nilC] using this
      have e4 : w1.cell? ⟨w.heap.size, k * 6 + 4, none⟩ = some (.int .i64 0) := by have := (hs.below hb1).cell hkn (show 4 < 6 by omega); simpa [ccell, zc, Rm.nilC] using this
      have e5 : w1.cell? ⟨w.heap.size, k * 6 + 5, none⟩ = some (.int .i64 0) := by have := (hs.below hb1).cell hkn (show 5 < 6 by omega); simpa [ccell, zc, Rm.nilC] using this
      have ef : ∀ j, w1.frozen? ⟨w.heap.size, j, none⟩ = false := fun j => (hs.below hb1).frozen j
      have HB : Hid (Below wr.heap.size wr w1) := hb1
      clear hs hb hb1 g0 g1 g2 g3 g4 g5
      go_wp2
      go_roundw
      case rel =>
        obtain ⟨hs, hb⟩ := HS.out
        have hb1 := HB.out
        have t0 := SegV.set (hs.below hb1) hkn (show 0 < 6 by omega) (.int .i64 (G k).i)
        have t1 := SegV.set t0 hkn (show 1 < 6 by omega) (.int .i64 (G k).j)
        have t2 := SegV.set t1 hkn (show 2 < 6 by omega) (.int .i64 (G k).a)
        have t3 := SegV.set t2 hkn (show 3 < 6 by omega) (.int .i64 (G k).b)
        have t4 := SegV.set t3 hkn (show 4 < 6 by omega) (.int .i64 (G k).c)
        have t5 := SegV.set t4 hkn (show 5 < 6 by omega) (.int .i64 (G k).d)
        refine ⟨k + 1, by omega, by simp, (t5.congr fun i hi j hj => ?_), (((((((box_step hb hb1 (Nat.le_refl _)).setCell (Nat.le_refl _) _).setCell (Nat.le_refl _) _).setCell (Nat.le_refl _) _).setCell (Nat.le_refl _) _).setCell (Nat.le_refl _) _).setCell (Nat.le_refl _) _)⟩
        by_cases e : i = k
        · subst e
          match j, hj with
          | 0, _ => simp [ccell]
          | 1, _ => simp [ccell]
          | 2, _ => simp [ccell]
          | 3, _ => simp [ccell]
          | 4, _ => simp [ccell]
          | 5, _ => simp [ccell]
        · by_cases e2 : i < k
          · simp [e, e2, Nat.lt_succ_of_lt e2]
          · have : ¬ i < k + 1 := by omega
            simp [e, e2, this]
      case measure => simp [intOf]; omega
    · obtain rfl : k = n := by omega
      clear hc later
      go_wp2
      go_ret
      exact ⟨rfl, hs.congr fun i hi j hj => by simp [hi], hb⟩
set_option maxHeartbeats 800000 in
theorem toCes_none (ao : Option Addr) (cap : Nat) (G : Nat → Ce) (w : World) :
    Calls Try.prog 68 #[.slice ao 0 cap] w fun e w' => e = .returned (.slice (some ⟨w.heap.size, 0, none⟩) 0 0) ∧ SegV w' w.heap.size 77 0 6 (fun i j => ccell (G i) j) ∧ Below w.heap.size w w' := by
  have hmk := makeCe 0 (by omega)
  rw [show ((0 : Nat) : Int) = 0 from rfl] at hmk
  have hS := segmadeCe w 0
  have hB : Below w.heap.size w (w.alloc (.cells (madeCells #[.int .i64 0, .int .i64 0, .int .i64 0, .int .i64 0, .int .i64 0, .int .i64 0] (0 * 6)) 77)) := (Below.refl _ _).alloc (Nat.le_refl _) _
  go_enter Try.func68, Try.ntmps68
  go_wp2_with fail
  refine wp_loop_rounds 1 ?_
  rw [rounds_succ]
  go_wp2
  go_ret
  exact ⟨rfl, hS.congr fun i hi => absurd hi (Nat.not_lt_zero _), hB⟩
theorem toCes_any {w : World} {v : Value} {n : Nat} {G : Nat → Ce} (h : RdV w v n 6 (fun i j => ccell (G i) j)) (hn : n ≤ 1000000000) :
    Calls Try.prog 68 #[v] w fun e w' => e = .returned (.slice (some ⟨w.heap.size, 0, none⟩) n n) ∧ SegV w' w.heap.size 77 n 6 (fun i j => ccell (G i) j) ∧ Below w.heap.size w w' := by
  rcases h with ⟨ao, cap, rfl, rfl⟩ | ⟨b, off, cap, rfl, hc⟩
  · exact toCes_none ao cap G w
  · exact toCes_some b off n cap G w hn hc
set_option maxRecDepth 20000 in
set_option maxHeartbeats 3200000 in
theorem eqCes_same (b cap b' cap' n : Nat) (G : Nat → Ce) (w : World) (hn : n ≤ 1000000000000) (hs : SegV w b 77 n 6 (fun i j => ccell (G i) j)) (ht : SegV w b' 77 n 6 (fun i j => ccell (G i) j)) :
    Calls Try.prog 71 #[.slice (some ⟨b, 0, none⟩) n cap, .slice (some ⟨b', 0, none⟩) n cap'] w fun e w' => e = .returned (.bool true) ∧ Below w.heap.size w w' := by
  have later : ∀ (wr : World) (p : Addr) {v : Value}, w.cell? p = some v → Below w.heap.size w wr → wr.cell? p = some v := fun wr p v h hb => (hb.cell (World.block_lt_of_cell? _ _ h)).trans h
  go_enter Try.func71, Try.ntmps71
  go_wp2_with fail
  go_loopw [5] (fun i wr => ∃ k : Nat, k ≤ n ∧ i = .int .i64 k ∧ Below w.heap.size w wr) (fun i _ => n - (intOf i).toNat)
  case atStart => exact ⟨0, Nat.zero_le _, rfl, Below.refl _ _⟩
  case round =>
    obtain ⟨k, hk, rfl, hb⟩ := hrel
    by_cases hkn : k < n
    · have p0 : ∀ W, Below w.heap.size w W → W.cell? ⟨b, k * 6, none⟩ = some (.int .i64 (G k).i) := fun W h => later W _ (hs.cell hkn (show 0 < 6 by omega)) h
      have q0 : ∀ W, Below w.heap.size w W → W.cell? ⟨b', k * 6, none⟩ = some (.int .i64 (G k).i) := fun W h => later W _ (ht.cell hkn (show 0 < 6 by omega)) h
      have p1 : ∀ W, Below w.heap.size w W → W.cell? ⟨b, k * 6 + 1, none⟩ = some (.int .i64 (G k).j) := fun W h => later W _ (hs.cell hkn (show 1 < 6 by omega)) h
      have q1 : ∀ W, Below w.heap.size w W → W.cell? ⟨b', k * 6 + 1, none⟩ = some (.int .i64 (G k).j) := fun W h => later W _ (ht.cell hkn (show 1 < 6 by omega)) h
      have p2 : ∀ W, Below w.heap.size w W → W.cell? ⟨b, k * 6 + 2, none⟩ = some (.int .i64 (G k).a) := fun W h => later W _ (hs.cell hkn (show 2 < 6 by omega)) h
      have q2 : ∀ W, Below w.heap.size w W → W.cell? ⟨b', k * 6 + 2, none⟩ = some (.int .i64 (G k).a) := fun W h => later W _ (ht.cell hkn (show 2 < 6 by omega)) h
      have p3 : ∀ W, Below w.heap.size w W → W.cell? ⟨b, k * 6 + 3, none⟩ = some (.int .i64 (G k).b) := fun W h => later W _ (hs.cell hkn (show 3 < 6 by omega)) h
      have q3 : ∀ W, Below w.heap.size w W → W.cell? ⟨b', k * 6 + 3, none⟩ = some (.int .i64 (G k).b) := fun W h => later W _ (ht.cell hkn (show 3 < 6 by omega)) h
      have p4 : ∀ W, Below w.heap.size w W → W.cell? ⟨b, k * 6 + 4, none⟩ = some (.int .i64 (G k).c) := fun W h => later W _ (hs.cell hkn (show 4 < 6 by omega)) h
      have q4 : ∀ W, Below w.heap.size w W → W.cell? ⟨b', k * 6 + 4, none⟩ = some (.int .i64 (G k).c) := fun W h => later W _ (ht.cell hkn (show 4 < 6 by omega)) h
      have p5 : ∀ W, Below w.heap.size w W → W.cell? ⟨b, k * 6 + 5, none⟩ = some (.int .i64 (G k).d) := fun W h => later W _ (hs.cell hkn (show 5 < 6 by omega)) h
      have q5 : ∀ W, Below w.heap.size w W → W.cell? ⟨b', k * 6 + 5, none⟩ = some (.int .i64 (G k).d) := fun W h => later W _ (ht.cell hkn (show 5 < 6 by omega)) h
      clear hs ht later
      go_wp2_with fail
      go_region_held (fun W => Below w.heap.size w W) (first | assumption | exact Below.drew ‹_›)
        (first | (go_at_call 101; refine (eqCell_same (G k) _).mono ?_; rintro e w1 ⟨rfl, hb1⟩; have hR1 := box_step ‹_› hb1 (Nat.le_refl _)))
      have HB : Hid (Below w.heap.size w w1) := hR1
      clear hR1 hb1 p0 q0 p1 q1 p2 q2 p3 q3 p4 q4 p5 q5
      go_wp2
      go_roundw
      case rel => exact ⟨k + 1, by omega, by simp, HB.out⟩
      case measure => simp [intOf]; omega
    · obtain rfl : k = n := by omega
      clear hs ht later
      go_wp2
      go_ret
      exact ⟨rfl, hb⟩
end Go.Proofs.Ytboppklcmdfphaa
