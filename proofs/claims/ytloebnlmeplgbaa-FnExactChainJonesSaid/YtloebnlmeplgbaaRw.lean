/- Lists of plates and of four numbers: the laws' own copies, counts and comparisons. -/
import Derived.Test.YtloebnlmeplgbaaTl
import Derived.Test.YtloebnlmeplgbaaVr
import Derived.Handy
import Derived.Deep.RegionHeld3
namespace Go.Proofs.Ytloebnlmeplgbaa
open Go.RowKit
set_option linter.unusedVariables false
set_option linter.unusedSimpArgs false
def plc (g : Pl) : Nat → Value
  | 0 => .int .i64 g.a.re
  | 1 => .int .i64 g.a.im
  | 2 => .int .i64 g.b.re
  | 3 => .int .i64 g.b.im
  | 4 => .int .i64 g.c.re
  | 5 => .int .i64 g.c.im
  | 6 => .int .i64 g.d.re
  | _ => .int .i64 g.d.im
def zpl : Pl := ⟨⟨0, 0⟩, ⟨0, 0⟩, ⟨0, 0⟩, ⟨0, 0⟩⟩
def skc (g : Sk) : Nat → Value
  | 0 => .int .i64 g.i
  | 1 => .int .i64 g.q
  | 2 => .int .i64 g.u
  | _ => .int .i64 g.v
def zsk : Sk := ⟨0, 0, 0, 0⟩
theorem infoPl : (Try.prog.info? 27).map (fun i => (i.zero, i.size, i.bytes)) = some (some (.agg #[.int .i64 0, .int .i64 0, .int .i64 0, .int .i64 0, .int .i64 0, .int .i64 0, .int .i64 0, .int .i64 0]), 8, 64) := by kernel_rfl
theorem makePl (n : Nat) (hn : n ≤ 1000000000) (w : World) : (Instr.makeSlice 68 (.int .i64 (n : Int)) (.int .i64 (n : Int))).run Try.prog w = .ok (.slice (some ⟨w.heap.size, 0, none⟩) n n) (w.alloc (.cells (madeCells #[.int .i64 0, .int .i64 0, .int .i64 0, .int .i64 0, .int .i64 0, .int .i64 0, .int .i64 0, .int .i64 0] (n * 8)) 27)) := by
  obtain ⟨i, hi, hzz⟩ := Option.map_eq_some_iff.1 infoPl
  simp only [Prod.mk.injEq] at hzz
  obtain ⟨hz, hs, hb⟩ := hzz
  have hr := run_make (P := Try.prog) w 68 27 i _ Try.underlying68 hi hz .i64 .i64 n n (by omega) (Int.le_refl _) (by rw [hb]; omega) (by omega)
  rw [hs] at hr
  simpa [Value.cells] using hr
theorem segmadePl (w : World) (n : Nat) : SegV (w.alloc (.cells (madeCells #[.int .i64 0, .int .i64 0, .int .i64 0, .int .i64 0, .int .i64 0, .int .i64 0, .int .i64 0, .int .i64 0] (n * 8)) 27)) w.heap.size 27 n 8 (fun _ j => plc zpl j) := by
  refine ⟨madeCells #[.int .i64 0, .int .i64 0, .int .i64 0, .int .i64 0, .int .i64 0, .int .i64 0, .int .i64 0, .int .i64 0] (n * 8), by show (w.heap.push _)[w.heap.size]? = _; simp, fun i hi j hj => ?_⟩
  rw [made_cell (idx_lt hj hi)]
  have e : (i * 8 + j) % 8 = j := by omega
  simp only [List.size_toArray, List.length_cons, List.length_nil, Nat.zero_add, Nat.reduceAdd, e]
  match j, hj with
  | 0, _ => rfl
  | 1, _ => rfl
  | 2, _ => rfl
  | 3, _ => rfl
  | 4, _ => rfl
  | 5, _ => rfl
  | 6, _ => rfl
  | 7, _ => rfl
set_option maxRecDepth 20000 in
set_option maxHeartbeats 3200000 in
theorem toPls_some (b off n cap : Nat) (G : Nat → Pl) (w : World) (hn : n ≤ 1000000000) (hc : ∀ i, i < n → ∀ j, j < 8 → w.cell? ⟨b, off + i * 8 + j, none⟩ = some (plc (G i) j)) :
    Calls Try.prog 40 #[.slice (some ⟨b, off, none⟩) n cap] w fun e w' => e = .returned (.slice (some ⟨w.heap.size, 0, none⟩) n n) ∧ SegV w' w.heap.size 27 n 8 (fun i j => plc (G i) j) ∧ Below w.heap.size w w' := by
  have hmk := makePl n hn
  have later : ∀ (wr : World) (p : Addr) {v : Value}, w.cell? p = some v → Below w.heap.size w wr → wr.cell? p = some v := fun wr p v h hb => (hb.cell (World.block_lt_of_cell? _ _ h)).trans h
  go_enter Try.func40, Try.ntmps40
  go_wp2_with fail
  clear hmk
  go_loopw [4] (fun i wr => ∃ k : Nat, k ≤ n ∧ i = .int .i64 k ∧ SegV wr w.heap.size 27 n 8 (fun i j => if i < k then plc (G i) j else plc zpl j) ∧ Below w.heap.size w wr) (fun i _ => n - (intOf i).toNat)
  case atStart => exact ⟨0, Nat.zero_le _, rfl, (segmadePl w n).congr (fun i _ j _ => by simp), (Below.refl _ _).alloc (Nat.le_refl _) _⟩
  case round =>
    obtain ⟨k, hk, rfl, hs, hb⟩ := hrel
    by_cases hkn : k < n
    · have HS : Hid (SegV wr w.heap.size 27 n 8 (fun i j => if i < k then plc (G i) j else plc zpl j) ∧ Below w.heap.size w wr) := ⟨hs, hb⟩
      have g0 : wr.cell? ⟨b, off + k * 8, none⟩ = some (.int .i64 ((G k).a.re)) := later _ _ (hc k hkn 0 (by omega)) hb
      have g1 : wr.cell? ⟨b, off + k * 8 + 1, none⟩ = some (.int .i64 ((G k).a.im)) := later _ _ (hc k hkn 1 (by omega)) hb
      have g2 : wr.cell? ⟨b, off + k * 8 + 2, none⟩ = some (.int .i64 ((G k).b.re)) := later _ _ (hc k hkn 2 (by omega)) hb
      have g3 : wr.cell? ⟨b, off + k * 8 + 3, none⟩ = some (.int .i64 ((G k).b.im)) := later _ _ (hc k hkn 3 (by omega)) hb
      have g4 : wr.cell? ⟨b, off + k * 8 + 4, none⟩ = some (.int .i64 ((G k).c.re)) := later _ _ (hc k hkn 4 (by omega)) hb
      have g5 : wr.cell? ⟨b, off + k * 8 + 5, none⟩ = some (.int .i64 ((G k).c.im)) := later _ _ (hc k hkn 5 (by omega)) hb
      have g6 : wr.cell? ⟨b, off + k * 8 + 6, none⟩ = some (.int .i64 ((G k).d.re)) := later _ _ (hc k hkn 6 (by omega)) hb
      have g7 : wr.cell? ⟨b, off + k * 8 + 7, none⟩ = some (.int .i64 ((G k).d.im)) := later _ _ (hc k hkn 7 (by omega)) hb
      clear hs hb hc later
      go_wp2_with fail
      refine (toP_any (G k) _).mono ?_
      rintro e w1 ⟨rfl, hb1⟩
      obtain ⟨hs, hb⟩ := HS.out
      have e0 : w1.cell? ⟨w.heap.size, k * 8, none⟩ = some (.int .i64 0) := by have := (hs.below hb1).cell hkn (show 0 < 8 by omega); simpa [plc, zpl] using this
      have e1 : w1.cell? ⟨w.heap.size, k * 8 + 1, none⟩ = some (.int .i64 0) := by have := (hs.below hb1).cell hkn (show 1 < 8 by omega); simpa [plc, zpl] using this
      have e2 : w1.cell? ⟨w.heap.size, k * 8 + 2, none⟩ = some (.int .i64 0) := by have := (hs.below hb1).cell hkn (show 2 < 8 by omega); simpa [plc, zpl] using this
      have e3 : w1.cell? ⟨w.heap.size, k * 8 + 3, none⟩ = some (.int .i64 0) := by have := (hs.below hb1).cell hkn (show 3 < 8 by omega); simpa [plc, zpl] using this
      have e4 : w1.cell? ⟨w.heap.size, k * 8 + 4, none⟩ = some (.int .i64 0) := by have := (hs.below hb1).cell hkn (show 4 < 8 by omega); simpa [plc, zpl] using this
      have e5 : w1.cell? ⟨w.heap.size, k * 8 + 5, none⟩ = some (.int .i64 0) := by have := (hs.below hb1).cell hkn (show 5 < 8 by omega); simpa [plc, zpl] using this
      have e6 : w1.cell? ⟨w.heap.size, k * 8 + 6, none⟩ = some (.int .i64 0) := by have := (hs.below hb1).cell hkn (show 6 < 8 by omega); simpa [plc, zpl] using this
      have e7 : w1.cell? ⟨w.heap.size, k * 8 + 7, none⟩ = some (.int .i64 0) := by have := (hs.below hb1).cell hkn (show 7 < 8 by omega); simpa [plc, zpl] using this
      have ef : ∀ j, w1.frozen? ⟨w.heap.size, j, none⟩ = false := fun j => (hs.below hb1).frozen j
      have HB : Hid (Below wr.heap.size wr w1) := hb1
      clear hs hb hb1 g0 g1 g2 g3 g4 g5 g6 g7
      go_wp2
      go_roundw
      case rel =>
        obtain ⟨hs, hb⟩ := HS.out
        have hb1 := HB.out
        have t0 := SegV.set (hs.below hb1) hkn (show 0 < 8 by omega) (.int .i64 ((G k).a.re))
        have t1 := SegV.set t0 hkn (show 1 < 8 by omega) (.int .i64 ((G k).a.im))
        have t2 := SegV.set t1 hkn (show 2 < 8 by omega) (.int .i64 ((G k).b.re))
        have t3 := SegV.set t2 hkn (show 3 < 8 by omega) (.int .i64 ((G k).b.im))
        have t4 := SegV.set t3 hkn (show 4 < 8 by omega) (.int .i64 ((G k).c.re))
        have t5 := SegV.set t4 hkn (show 5 < 8 by omega) (.int .i64 ((G k).c.im))
        have t6 := SegV.set t5 hkn (show 6 < 8 by omega) (.int .i64 ((G k).d.re))
        have t7 := SegV.set t6 hkn (show 7 < 8 by omega) (.int .i64 ((G k).d.im))
        refine ⟨k + 1, by omega, by simp, (t7.congr fun i hi j hj => ?_), (((((((((box_step hb hb1 (Nat.le_refl _)).setCell (Nat.le_refl _) _).setCell (Nat.le_refl _) _).setCell (Nat.le_refl _) _).setCell (Nat.le_refl _) _).setCell (Nat.le_refl _) _).setCell (Nat.le_refl _) _).setCell (Nat.le_refl _) _).setCell (Nat.le_refl _) _)⟩
        by_cases e : i = k
        · subst e
          match j, hj with
          | 0, _ => simp [plc]
          | 1, _ => simp [plc]
          | 2, _ => simp [plc]
          | 3, _ => simp [plc]
          | 4, _ => simp [plc]
          | 5, _ => simp [plc]
          | 6, _ => simp [plc]
          | 7, _ => simp [plc]
        · by_cases e2 : i < k
          · simp [e, e2, Nat.lt_succ_of_lt e2]
          · have : ¬ i < k + 1 := by omega
            simp [e, e2, this]
      case measure => simp [intOf]; omega
    · obtain rfl : k = n := by omega
      clear hc later
      go_wp2
      go_ret
      exact ⟨rfl, hs.congr fun i hi j hj => by simp [hi], hb⟩
set_option maxHeartbeats 800000 in
theorem toPls_none (ao : Option Addr) (cap : Nat) (G : Nat → Pl) (w : World) :
    Calls Try.prog 40 #[.slice ao 0 cap] w fun e w' => e = .returned (.slice (some ⟨w.heap.size, 0, none⟩) 0 0) ∧ SegV w' w.heap.size 27 0 8 (fun i j => plc (G i) j) ∧ Below w.heap.size w w' := by
  have hmk := makePl 0 (by omega)
  rw [show ((0 : Nat) : Int) = 0 from rfl] at hmk
  have hS := segmadePl w 0
  have hB : Below w.heap.size w (w.alloc (.cells (madeCells #[.int .i64 0, .int .i64 0, .int .i64 0, .int .i64 0, .int .i64 0, .int .i64 0, .int .i64 0, .int .i64 0] (0 * 8)) 27)) := (Below.refl _ _).alloc (Nat.le_refl _) _
  go_enter Try.func40, Try.ntmps40
  go_wp2_with fail
  refine wp_loop_rounds 1 ?_
  rw [rounds_succ]
  go_wp2
  go_ret
  exact ⟨rfl, hS.congr fun i hi => absurd hi (Nat.not_lt_zero _), hB⟩
theorem toPls_any {w : World} {v : Value} {n : Nat} {G : Nat → Pl} (h : RdV w v n 8 (fun i j => plc (G i) j)) (hn : n ≤ 1000000000) :
    Calls Try.prog 40 #[v] w fun e w' => e = .returned (.slice (some ⟨w.heap.size, 0, none⟩) n n) ∧ SegV w' w.heap.size 27 n 8 (fun i j => plc (G i) j) ∧ Below w.heap.size w w' := by
  rcases h with ⟨ao, cap, rfl, rfl⟩ | ⟨b, off, cap, rfl, hc⟩
  · exact toPls_none ao cap G w
  · exact toPls_some b off n cap G w hn hc
theorem szPls_any (ao : Option Addr) (n cap : Nat) (w : World) (hn : n ≤ 9223372036854775807) : Calls Try.prog 38 #[.slice ao n cap, .int .i64 1048576] w fun e w' => e = .returned (.int .i64 (if 1048576 < n then -1 else 1048576 - n)) ∧ w = w' := by
  by_cases h : 1048576 < n
  · rw [if_pos h]
    go_enter Try.func38, Try.ntmps38
    go_wp2
    go_ret
    exact ⟨rfl, rfl⟩
  · rw [if_neg h]
    go_enter Try.func38, Try.ntmps38
    go_wp2
    go_ret
    exact ⟨rfl, rfl⟩
set_option maxRecDepth 20000 in
set_option maxHeartbeats 3200000 in
theorem eqPls_same (b cap b' cap' n : Nat) (G : Nat → Pl) (w : World) (hn : n ≤ 1000000000000) (hs : SegV w b 27 n 8 (fun i j => plc (G i) j)) (ht : SegV w b' 27 n 8 (fun i j => plc (G i) j)) :
    Calls Try.prog 43 #[.slice (some ⟨b, 0, none⟩) n cap, .slice (some ⟨b', 0, none⟩) n cap'] w fun e w' => e = .returned (.bool true) ∧ Below w.heap.size w w' := by
  have later : ∀ (wr : World) (p : Addr) {v : Value}, w.cell? p = some v → Below w.heap.size w wr → wr.cell? p = some v := fun wr p v h hb => (hb.cell (World.block_lt_of_cell? _ _ h)).trans h
  go_enter Try.func43, Try.ntmps43
  go_wp2_with fail
  go_loopw [5] (fun i wr => ∃ k : Nat, k ≤ n ∧ i = .int .i64 k ∧ Below w.heap.size w wr) (fun i _ => n - (intOf i).toNat)
  case atStart => exact ⟨0, Nat.zero_le _, rfl, Below.refl _ _⟩
  case round =>
    obtain ⟨k, hk, rfl, hb⟩ := hrel
    by_cases hkn : k < n
    · have p0 : ∀ W, Below w.heap.size w W → W.cell? ⟨b, k * 8, none⟩ = some (.int .i64 ((G k).a.re)) := fun W h => later W _ (hs.cell hkn (show 0 < 8 by omega)) h
      have q0 : ∀ W, Below w.heap.size w W → W.cell? ⟨b', k * 8, none⟩ = some (.int .i64 ((G k).a.re)) := fun W h => later W _ (ht.cell hkn (show 0 < 8 by omega)) h
      have p1 : ∀ W, Below w.heap.size w W → W.cell? ⟨b, k * 8 + 1, none⟩ = some (.int .i64 ((G k).a.im)) := fun W h => later W _ (hs.cell hkn (show 1 < 8 by omega)) h
      have q1 : ∀ W, Below w.heap.size w W → W.cell? ⟨b', k * 8 + 1, none⟩ = some (.int .i64 ((G k).a.im)) := fun W h => later W _ (ht.cell hkn (show 1 < 8 by omega)) h
      have p2 : ∀ W, Below w.heap.size w W → W.cell? ⟨b, k * 8 + 2, none⟩ = some (.int .i64 ((G k).b.re)) := fun W h => later W _ (hs.cell hkn (show 2 < 8 by omega)) h
      have q2 : ∀ W, Below w.heap.size w W → W.cell? ⟨b', k * 8 + 2, none⟩ = some (.int .i64 ((G k).b.re)) := fun W h => later W _ (ht.cell hkn (show 2 < 8 by omega)) h
      have p3 : ∀ W, Below w.heap.size w W → W.cell? ⟨b, k * 8 + 3, none⟩ = some (.int .i64 ((G k).b.im)) := fun W h => later W _ (hs.cell hkn (show 3 < 8 by omega)) h
      have q3 : ∀ W, Below w.heap.size w W → W.cell? ⟨b', k * 8 + 3, none⟩ = some (.int .i64 ((G k).b.im)) := fun W h => later W _ (ht.cell hkn (show 3 < 8 by omega)) h
      have p4 : ∀ W, Below w.heap.size w W → W.cell? ⟨b, k * 8 + 4, none⟩ = some (.int .i64 ((G k).c.re)) := fun W h => later W _ (hs.cell hkn (show 4 < 8 by omega)) h
      have q4 : ∀ W, Below w.heap.size w W → W.cell? ⟨b', k * 8 + 4, none⟩ = some (.int .i64 ((G k).c.re)) := fun W h => later W _ (ht.cell hkn (show 4 < 8 by omega)) h
      have p5 : ∀ W, Below w.heap.size w W → W.cell? ⟨b, k * 8 + 5, none⟩ = some (.int .i64 ((G k).c.im)) := fun W h => later W _ (hs.cell hkn (show 5 < 8 by omega)) h
      have q5 : ∀ W, Below w.heap.size w W → W.cell? ⟨b', k * 8 + 5, none⟩ = some (.int .i64 ((G k).c.im)) := fun W h => later W _ (ht.cell hkn (show 5 < 8 by omega)) h
      have p6 : ∀ W, Below w.heap.size w W → W.cell? ⟨b, k * 8 + 6, none⟩ = some (.int .i64 ((G k).d.re)) := fun W h => later W _ (hs.cell hkn (show 6 < 8 by omega)) h
      have q6 : ∀ W, Below w.heap.size w W → W.cell? ⟨b', k * 8 + 6, none⟩ = some (.int .i64 ((G k).d.re)) := fun W h => later W _ (ht.cell hkn (show 6 < 8 by omega)) h
      have p7 : ∀ W, Below w.heap.size w W → W.cell? ⟨b, k * 8 + 7, none⟩ = some (.int .i64 ((G k).d.im)) := fun W h => later W _ (hs.cell hkn (show 7 < 8 by omega)) h
      have q7 : ∀ W, Below w.heap.size w W → W.cell? ⟨b', k * 8 + 7, none⟩ = some (.int .i64 ((G k).d.im)) := fun W h => later W _ (ht.cell hkn (show 7 < 8 by omega)) h
      clear hs ht later
      go_wp2_with fail
      go_region_held (fun W => Below w.heap.size w W) (first | assumption | exact Below.drew ‹_›)
        (first | (go_at_call 36; refine (eqP_same (G k).a (G k).b (G k).c (G k).d _).mono ?_; rintro e w1 ⟨rfl, hb1⟩; have hR1 := box_step ‹_› hb1 (Nat.le_refl _)))
      have HB : Hid (Below w.heap.size w w1) := hR1
      clear hR1 hb1 p0 q0 p1 q1 p2 q2 p3 q3 p4 q4 p5 q5 p6 q6 p7 q7
      go_wp2
      go_roundw
      case rel => exact ⟨k + 1, by omega, by simp, HB.out⟩
      case measure => simp [intOf]; omega
    · obtain rfl : k = n := by omega
      clear hs ht later
      go_wp2
      go_ret
      exact ⟨rfl, hb⟩
theorem infoSk : (Try.prog.info? 36).map (fun i => (i.zero, i.size, i.bytes)) = some (some (.agg #[.int .i64 0, .int .i64 0, .int .i64 0, .int .i64 0]), 4, 32) := by kernel_rfl
theorem makeSk (n : Nat) (hn : n ≤ 1000000000) (w : World) : (Instr.makeSlice 81 (.int .i64 (n : Int)) (.int .i64 (n : Int))).run Try.prog w = .ok (.slice (some ⟨w.heap.size, 0, none⟩) n n) (w.alloc (.cells (madeCells #[.int .i64 0, .int .i64 0, .int .i64 0, .int .i64 0] (n * 4)) 36)) := by
  obtain ⟨i, hi, hzz⟩ := Option.map_eq_some_iff.1 infoSk
  simp only [Prod.mk.injEq] at hzz
  obtain ⟨hz, hs, hb⟩ := hzz
  have hr := run_make (P := Try.prog) w 81 36 i _ Try.underlying81 hi hz .i64 .i64 n n (by omega) (Int.le_refl _) (by rw [hb]; omega) (by omega)
  rw [hs] at hr
  simpa [Value.cells] using hr
theorem segmadeSk (w : World) (n : Nat) : SegV (w.alloc (.cells (madeCells #[.int .i64 0, .int .i64 0, .int .i64 0, .int .i64 0] (n * 4)) 36)) w.heap.size 36 n 4 (fun _ j => skc zsk j) := by
  refine ⟨madeCells #[.int .i64 0, .int .i64 0, .int .i64 0, .int .i64 0] (n * 4), by show (w.heap.push _)[w.heap.size]? = _; simp, fun i hi j hj => ?_⟩
  rw [made_cell (idx_lt hj hi)]
  have e : (i * 4 + j) % 4 = j := by omega
  simp only [List.size_toArray, List.length_cons, List.length_nil, Nat.zero_add, Nat.reduceAdd, e]
  match j, hj with
  | 0, _ => rfl
  | 1, _ => rfl
  | 2, _ => rfl
  | 3, _ => rfl
set_option maxRecDepth 20000 in
set_option maxHeartbeats 3200000 in
theorem toSks_some (b off n cap : Nat) (G : Nat → Sk) (w : World) (hn : n ≤ 1000000000) (hc : ∀ i, i < n → ∀ j, j < 4 → w.cell? ⟨b, off + i * 4 + j, none⟩ = some (skc (G i) j)) :
    Calls Try.prog 51 #[.slice (some ⟨b, off, none⟩) n cap] w fun e w' => e = .returned (.slice (some ⟨w.heap.size, 0, none⟩) n n) ∧ SegV w' w.heap.size 36 n 4 (fun i j => skc (G i) j) ∧ Below w.heap.size w w' := by
  have hmk := makeSk n hn
  have later : ∀ (wr : World) (p : Addr) {v : Value}, w.cell? p = some v → Below w.heap.size w wr → wr.cell? p = some v := fun wr p v h hb => (hb.cell (World.block_lt_of_cell? _ _ h)).trans h
  go_enter Try.func51, Try.ntmps51
  go_wp2_with fail
  clear hmk
  go_loopw [4] (fun i wr => ∃ k : Nat, k ≤ n ∧ i = .int .i64 k ∧ SegV wr w.heap.size 36 n 4 (fun i j => if i < k then skc (G i) j else skc zsk j) ∧ Below w.heap.size w wr) (fun i _ => n - (intOf i).toNat)
  case atStart => exact ⟨0, Nat.zero_le _, rfl, (segmadeSk w n).congr (fun i _ j _ => by simp), (Below.refl _ _).alloc (Nat.le_refl _) _⟩
  case round =>
    obtain ⟨k, hk, rfl, hs, hb⟩ := hrel
    by_cases hkn : k < n
    · have HS : Hid (SegV wr w.heap.size 36 n 4 (fun i j => if i < k then skc (G i) j else skc zsk j) ∧ Below w.heap.size w wr) := ⟨hs, hb⟩
      have g0 : wr.cell? ⟨b, off + k * 4, none⟩ = some (.int .i64 ((G k).i)) := later _ _ (hc k hkn 0 (by omega)) hb
      have g1 : wr.cell? ⟨b, off + k * 4 + 1, none⟩ = some (.int .i64 ((G k).q)) := later _ _ (hc k hkn 1 (by omega)) hb
      have g2 : wr.cell? ⟨b, off + k * 4 + 2, none⟩ = some (.int .i64 ((G k).u)) := later _ _ (hc k hkn 2 (by omega)) hb
      have g3 : wr.cell? ⟨b, off + k * 4 + 3, none⟩ = some (.int .i64 ((G k).v)) := later _ _ (hc k hkn 3 (by omega)) hb
      clear hs hb hc later
      go_wp2_with fail
      refine (toStokes_any (G k) _).mono ?_
      rintro e w1 ⟨rfl, hb1⟩
      obtain ⟨hs, hb⟩ := HS.out
      have e0 : w1.cell? ⟨w.heap.size, k * 4, none⟩ = some (.int .i64 0) := by have := (hs.below hb1).cell hkn (show 0 < 4 by omega); simpa [skc, zsk] using this
      have e1 : w1.cell? ⟨w.heap.size, k * 4 + 1, none⟩ = some (.int .i64 0) := by have := (hs.below hb1).cell hkn (show 1 < 4 by omega); simpa [skc, zsk] using this
      have e2 : w1.cell? ⟨w.heap.size, k * 4 + 2, none⟩ = some (.int .i64 0) := by have := (hs.below hb1).cell hkn (show 2 < 4 by omega); simpa [skc, zsk] using this
      have e3 : w1.cell? ⟨w.heap.size, k * 4 + 3, none⟩ = some (.int .i64 0) := by have := (hs.below hb1).cell hkn (show 3 < 4 by omega); simpa [skc, zsk] using this
      have ef : ∀ j, w1.frozen? ⟨w.heap.size, j, none⟩ = false := fun j => (hs.below hb1).frozen j
      have HB : Hid (Below wr.heap.size wr w1) := hb1
      clear hs hb hb1 g0 g1 g2 g3
      go_wp2
      go_roundw
      case rel =>
        obtain ⟨hs, hb⟩ := HS.out
        have hb1 := HB.out
        have t0 := SegV.set (hs.below hb1) hkn (show 0 < 4 by omega) (.int .i64 ((G k).i))
        have t1 := SegV.set t0 hkn (show 1 < 4 by omega) (.int .i64 ((G k).q))
        have t2 := SegV.set t1 hkn (show 2 < 4 by omega) (.int .i64 ((G k).u))
        have t3 := SegV.set t2 hkn (show 3 < 4 by omega) (.int .i64 ((G k).v))
        refine ⟨k + 1, by omega, by simp, (t3.congr fun i hi j hj => ?_), (((((box_step hb hb1 (Nat.le_refl _)).setCell (Nat.le_refl _) _).setCell (Nat.le_refl _) _).setCell (Nat.le_refl _) _).setCell (Nat.le_refl _) _)⟩
        by_cases e : i = k
        · subst e
          match j, hj with
          | 0, _ => simp [skc]
          | 1, _ => simp [skc]
          | 2, _ => simp [skc]
          | 3, _ => simp [skc]
        · by_cases e2 : i < k
          · simp [e, e2, Nat.lt_succ_of_lt e2]
          · have : ¬ i < k + 1 := by omega
            simp [e, e2, this]
      case measure => simp [intOf]; omega
    · obtain rfl : k = n := by omega
      clear hc later
      go_wp2
      go_ret
      exact ⟨rfl, hs.congr fun i hi j hj => by simp [hi], hb⟩
set_option maxHeartbeats 800000 in
theorem toSks_none (ao : Option Addr) (cap : Nat) (G : Nat → Sk) (w : World) :
    Calls Try.prog 51 #[.slice ao 0 cap] w fun e w' => e = .returned (.slice (some ⟨w.heap.size, 0, none⟩) 0 0) ∧ SegV w' w.heap.size 36 0 4 (fun i j => skc (G i) j) ∧ Below w.heap.size w w' := by
  have hmk := makeSk 0 (by omega)
  rw [show ((0 : Nat) : Int) = 0 from rfl] at hmk
  have hS := segmadeSk w 0
  have hB : Below w.heap.size w (w.alloc (.cells (madeCells #[.int .i64 0, .int .i64 0, .int .i64 0, .int .i64 0] (0 * 4)) 36)) := (Below.refl _ _).alloc (Nat.le_refl _) _
  go_enter Try.func51, Try.ntmps51
  go_wp2_with fail
  refine wp_loop_rounds 1 ?_
  rw [rounds_succ]
  go_wp2
  go_ret
  exact ⟨rfl, hS.congr fun i hi => absurd hi (Nat.not_lt_zero _), hB⟩
theorem toSks_any {w : World} {v : Value} {n : Nat} {G : Nat → Sk} (h : RdV w v n 4 (fun i j => skc (G i) j)) (hn : n ≤ 1000000000) :
    Calls Try.prog 51 #[v] w fun e w' => e = .returned (.slice (some ⟨w.heap.size, 0, none⟩) n n) ∧ SegV w' w.heap.size 36 n 4 (fun i j => skc (G i) j) ∧ Below w.heap.size w w' := by
  rcases h with ⟨ao, cap, rfl, rfl⟩ | ⟨b, off, cap, rfl, hc⟩
  · exact toSks_none ao cap G w
  · exact toSks_some b off n cap G w hn hc
theorem szSks_any (ao : Option Addr) (n cap : Nat) (w : World) (hn : n ≤ 9223372036854775807) : Calls Try.prog 49 #[.slice ao n cap, .int .i64 1048576] w fun e w' => e = .returned (.int .i64 (if 1048576 < n then -1 else 1048576 - n)) ∧ w = w' := by
  by_cases h : 1048576 < n
  · rw [if_pos h]
    go_enter Try.func49, Try.ntmps49
    go_wp2
    go_ret
    exact ⟨rfl, rfl⟩
  · rw [if_neg h]
    go_enter Try.func49, Try.ntmps49
    go_wp2
    go_ret
    exact ⟨rfl, rfl⟩
set_option maxRecDepth 20000 in
set_option maxHeartbeats 3200000 in
theorem eqSks_same (b cap b' cap' n : Nat) (G : Nat → Sk) (w : World) (hn : n ≤ 1000000000000) (hs : SegV w b 36 n 4 (fun i j => skc (G i) j)) (ht : SegV w b' 36 n 4 (fun i j => skc (G i) j)) :
    Calls Try.prog 53 #[.slice (some ⟨b, 0, none⟩) n cap, .slice (some ⟨b', 0, none⟩) n cap'] w fun e w' => e = .returned (.bool true) ∧ Below w.heap.size w w' := by
  have later : ∀ (wr : World) (p : Addr) {v : Value}, w.cell? p = some v → Below w.heap.size w wr → wr.cell? p = some v := fun wr p v h hb => (hb.cell (World.block_lt_of_cell? _ _ h)).trans h
  go_enter Try.func53, Try.ntmps53
  go_wp2_with fail
  go_loopw [5] (fun i wr => ∃ k : Nat, k ≤ n ∧ i = .int .i64 k ∧ Below w.heap.size w wr) (fun i _ => n - (intOf i).toNat)
  case atStart => exact ⟨0, Nat.zero_le _, rfl, Below.refl _ _⟩
  case round =>
    obtain ⟨k, hk, rfl, hb⟩ := hrel
    by_cases hkn : k < n
    · have p0 : ∀ W, Below w.heap.size w W → W.cell? ⟨b, k * 4, none⟩ = some (.int .i64 ((G k).i)) := fun W h => later W _ (hs.cell hkn (show 0 < 4 by omega)) h
      have q0 : ∀ W, Below w.heap.size w W → W.cell? ⟨b', k * 4, none⟩ = some (.int .i64 ((G k).i)) := fun W h => later W _ (ht.cell hkn (show 0 < 4 by omega)) h
      have p1 : ∀ W, Below w.heap.size w W → W.cell? ⟨b, k * 4 + 1, none⟩ = some (.int .i64 ((G k).q)) := fun W h => later W _ (hs.cell hkn (show 1 < 4 by omega)) h
      have q1 : ∀ W, Below w.heap.size w W → W.cell? ⟨b', k * 4 + 1, none⟩ = some (.int .i64 ((G k).q)) := fun W h => later W _ (ht.cell hkn (show 1 < 4 by omega)) h
      have p2 : ∀ W, Below w.heap.size w W → W.cell? ⟨b, k * 4 + 2, none⟩ = some (.int .i64 ((G k).u)) := fun W h => later W _ (hs.cell hkn (show 2 < 4 by omega)) h
      have q2 : ∀ W, Below w.heap.size w W → W.cell? ⟨b', k * 4 + 2, none⟩ = some (.int .i64 ((G k).u)) := fun W h => later W _ (ht.cell hkn (show 2 < 4 by omega)) h
      have p3 : ∀ W, Below w.heap.size w W → W.cell? ⟨b, k * 4 + 3, none⟩ = some (.int .i64 ((G k).v)) := fun W h => later W _ (hs.cell hkn (show 3 < 4 by omega)) h
      have q3 : ∀ W, Below w.heap.size w W → W.cell? ⟨b', k * 4 + 3, none⟩ = some (.int .i64 ((G k).v)) := fun W h => later W _ (ht.cell hkn (show 3 < 4 by omega)) h
      clear hs ht later
      go_wp2_with fail
      go_region_held (fun W => Below w.heap.size w W) (first | assumption | exact Below.drew ‹_›)
        (first | (go_at_call 85; refine (eqStokes_same (G k) _).mono ?_; rintro e w1 ⟨rfl, hb1⟩; have hR1 := box_step ‹_› hb1 (Nat.le_refl _)))
      have HB : Hid (Below w.heap.size w w1) := hR1
      clear hR1 hb1 p0 q0 p1 q1 p2 q2 p3 q3
      go_wp2
      go_roundw
      case rel => exact ⟨k + 1, by omega, by simp, HB.out⟩
      case measure => simp [intOf]; omega
    · obtain rfl : k = n := by omega
      clear hs ht later
      go_wp2
      go_ret
      exact ⟨rfl, hb⟩
theorem Blk.later {W W' : World} {b : Nat} {cs : Array Value} {t : TypeId} (h : Blk W b cs t) (k : Below W.heap.size W W') : Blk W' b cs t := h.old k
theorem SegV.later {W W' : World} {b : Nat} {t : TypeId} {n m : Nat} {f : Nat → Nat → Value} (h : SegV W b t n m f) (k : Below W.heap.size W W') : SegV W' b t n m f := h.below k
end Go.Proofs.Ytloebnlmeplgbaa
