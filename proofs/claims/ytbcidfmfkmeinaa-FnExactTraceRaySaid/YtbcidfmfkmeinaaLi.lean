/- Lists of faces and of rays: the laws' own copies, counts, comparisons and marks. -/
import Derived.Test.YtbcidfmfkmeinaaFq
import Derived.Handy
import Derived.Deep.RegionHeld3
namespace Go.Proofs.Ytbcidfmfkmeinaa
open Go.RowKit Fl
set_option linter.unusedVariables false
set_option linter.unusedSimpArgs false
/-- A cell of a row of floats. -/
def fcl (g : Nat → Nat) (j : Nat) : Value := .float .f64 (g j)
def zfl : Nat → Nat := fun _ => 0
theorem infoFa : (Try.prog.info? 41).map (fun i => (i.zero, i.size, i.bytes)) = some (some (.agg #[.float .f64 0, .float .f64 0, .float .f64 0, .float .f64 0, .float .f64 0]), 5, 40) := by kernel_rfl
theorem makeFa (n : Nat) (hn : n ≤ 1000000000) (w : World) : (Instr.makeSlice 31 (.int .i64 (n : Int)) (.int .i64 (n : Int))).run Try.prog w = .ok (.slice (some ⟨w.heap.size, 0, none⟩) n n) (w.alloc (.cells (madeCells #[.float .f64 0, .float .f64 0, .float .f64 0, .float .f64 0, .float .f64 0] (n * 5)) 41)) := by
  obtain ⟨i, hi, hzz⟩ := Option.map_eq_some_iff.1 infoFa
  simp only [Prod.mk.injEq] at hzz
  obtain ⟨hz, hs, hb⟩ := hzz
  have hr := run_make (P := Try.prog) w 31 41 i _ Try.underlying31 hi hz .i64 .i64 n n (by omega) (Int.le_refl _) (by rw [hb]; omega) (by omega)
  rw [hs] at hr
  simpa [Value.cells] using hr
theorem segmadeFa (w : World) (n : Nat) : SegV (w.alloc (.cells (madeCells #[.float .f64 0, .float .f64 0, .float .f64 0, .float .f64 0, .float .f64 0] (n * 5)) 41)) w.heap.size 41 n 5 (fun _ j => fcl zfl j) := by
  refine ⟨madeCells #[.float .f64 0, .float .f64 0, .float .f64 0, .float .f64 0, .float .f64 0] (n * 5), by show (w.heap.push _)[w.heap.size]? = _; simp, fun i hi j hj => ?_⟩
  rw [made_cell (idx_lt hj hi)]
  have e : (i * 5 + j) % 5 = j := by omega
  simp only [List.size_toArray, List.length_cons, List.length_nil, Nat.zero_add, Nat.reduceAdd, e]
  match j, hj with
  | 0, _ => rfl
  | 1, _ => rfl
  | 2, _ => rfl
  | 3, _ => rfl
  | 4, _ => rfl
set_option maxRecDepth 20000 in
set_option maxHeartbeats 3200000 in
theorem toFas_some (b off n cap : Nat) (G : Nat → (Nat → Nat)) (w : World) (hn : n ≤ 1000000000) (hc : ∀ i, i < n → ∀ j, j < 5 → w.cell? ⟨b, off + i * 5 + j, none⟩ = some (fcl (G i) j)) :
    Calls Try.prog 6 #[.slice (some ⟨b, off, none⟩) n cap] w fun e w' => e = .returned (.slice (some ⟨w.heap.size, 0, none⟩) n n) ∧ SegV w' w.heap.size 41 n 5 (fun i j => fcl (G i) j) ∧ Below w.heap.size w w' := by
  have hmk := makeFa n hn
  have hst := st64
  have later : ∀ (wr : World) (p : Addr) {v : Value}, w.cell? p = some v → Below w.heap.size w wr → wr.cell? p = some v := fun wr p v h hb => (hb.cell (World.block_lt_of_cell? _ _ h)).trans h
  go_enter Try.func6, Try.ntmps6
  go_wp2_with fail
  clear hmk
  go_loopw [4] (fun i wr => ∃ k : Nat, k ≤ n ∧ i = .int .i64 k ∧ SegV wr w.heap.size 41 n 5 (fun i j => if i < k then fcl (G i) j else fcl zfl j) ∧ Below w.heap.size w wr) (fun i _ => n - (intOf i).toNat)
  case atStart => exact ⟨0, Nat.zero_le _, rfl, (segmadeFa w n).congr (fun i _ j _ => by simp), (Below.refl _ _).alloc (Nat.le_refl _) _⟩
  case round =>
    obtain ⟨k, hk, rfl, hs, hb⟩ := hrel
    by_cases hkn : k < n
    · have HS : Hid (SegV wr w.heap.size 41 n 5 (fun i j => if i < k then fcl (G i) j else fcl zfl j) ∧ Below w.heap.size w wr) := ⟨hs, hb⟩
      have g0 : wr.cell? ⟨b, off + k * 5, none⟩ = some (.float .f64 ((G k) 0)) := later _ _ (hc k hkn 0 (by omega)) hb
      have g1 : wr.cell? ⟨b, off + k * 5 + 1, none⟩ = some (.float .f64 ((G k) 1)) := later _ _ (hc k hkn 1 (by omega)) hb
      have g2 : wr.cell? ⟨b, off + k * 5 + 2, none⟩ = some (.float .f64 ((G k) 2)) := later _ _ (hc k hkn 2 (by omega)) hb
      have g3 : wr.cell? ⟨b, off + k * 5 + 3, none⟩ = some (.float .f64 ((G k) 3)) := later _ _ (hc k hkn 3 (by omega)) hb
      have g4 : wr.cell? ⟨b, off + k * 5 + 4, none⟩ = some (.float .f64 ((G k) 4)) := later _ _ (hc k hkn 4 (by omega)) hb
      clear hs hb hc later
      go_wp2_with fail
      refine (toFace_any (G k) _).mono ?_
      rintro e w1 ⟨rfl, hb1⟩
      obtain ⟨hs, hb⟩ := HS.out
      have e0 : w1.cell? ⟨w.heap.size, k * 5, none⟩ = some (.float .f64 0) := by have := (hs.below hb1).cell hkn (show 0 < 5 by omega); simpa [fcl, zfl] using this
      have e1 : w1.cell? ⟨w.heap.size, k * 5 + 1, none⟩ = some (.float .f64 0) := by have := (hs.below hb1).cell hkn (show 1 < 5 by omega); simpa [fcl, zfl] using this
      have e2 : w1.cell? ⟨w.heap.size, k * 5 + 2, none⟩ = some (.float .f64 0) := by have := (hs.below hb1).cell hkn (show 2 < 5 by omega); simpa [fcl, zfl] using this
      have e3 : w1.cell? ⟨w.heap.size, k * 5 + 3, none⟩ = some (.float .f64 0) := by have := (hs.below hb1).cell hkn (show 3 < 5 by omega); simpa [fcl, zfl] using this
      have e4 : w1.cell? ⟨w.heap.size, k * 5 + 4, none⟩ = some (.float .f64 0) := by have := (hs.below hb1).cell hkn (show 4 < 5 by omega); simpa [fcl, zfl] using this
      have ef : ∀ j, w1.frozen? ⟨w.heap.size, j, none⟩ = false := fun j => (hs.below hb1).frozen j
      have HB : Hid (Below wr.heap.size wr w1) := hb1
      clear hs hb hb1 g0 g1 g2 g3 g4
      go_wp2
      go_roundw
      case rel =>
        obtain ⟨hs, hb⟩ := HS.out
        have hb1 := HB.out
        have t0 := SegV.set (hs.below hb1) hkn (show 0 < 5 by omega) (.float .f64 ((G k) 0))
        have t1 := SegV.set t0 hkn (show 1 < 5 by omega) (.float .f64 ((G k) 1))
        have t2 := SegV.set t1 hkn (show 2 < 5 by omega) (.float .f64 ((G k) 2))
        have t3 := SegV.set t2 hkn (show 3 < 5 by omega) (.float .f64 ((G k) 3))
        have t4 := SegV.set t3 hkn (show 4 < 5 by omega) (.float .f64 ((G k) 4))
        refine ⟨k + 1, by omega, by simp, (t4.congr fun i hi j hj => ?_), ((((((box_step hb hb1 (Nat.le_refl _)).setCell (Nat.le_refl _) _).setCell (Nat.le_refl _) _).setCell (Nat.le_refl _) _).setCell (Nat.le_refl _) _).setCell (Nat.le_refl _) _)⟩
        by_cases e : i = k
        · subst e
          match j, hj with
          | 0, _ => simp [fcl]
          | 1, _ => simp [fcl]
          | 2, _ => simp [fcl]
          | 3, _ => simp [fcl]
          | 4, _ => simp [fcl]
        · by_cases e2 : i < k
          · simp [e, e2, Nat.lt_succ_of_lt e2]
          · have : ¬ i < k + 1 := by omega
            simp [e, e2, this]
      case measure => simp [intOf]; omega
    · obtain rfl : k = n := by omega
      clear hc later
      go_wp2
      go_ret
      exact ⟨rfl, hs.congr fun i hi j hj => by simp [hi], hb⟩
set_option maxHeartbeats 800000 in
theorem toFas_none (ao : Option Addr) (cap : Nat) (G : Nat → (Nat → Nat)) (w : World) :
    Calls Try.prog 6 #[.slice ao 0 cap] w fun e w' => e = .returned (.slice (some ⟨w.heap.size, 0, none⟩) 0 0) ∧ SegV w' w.heap.size 41 0 5 (fun i j => fcl (G i) j) ∧ Below w.heap.size w w' := by
  have hmk := makeFa 0 (by omega)
  rw [show ((0 : Nat) : Int) = 0 from rfl] at hmk
  have hS := segmadeFa w 0
  have hB : Below w.heap.size w (w.alloc (.cells (madeCells #[.float .f64 0, .float .f64 0, .float .f64 0, .float .f64 0, .float .f64 0] (0 * 5)) 41)) := (Below.refl _ _).alloc (Nat.le_refl _) _
  go_enter Try.func6, Try.ntmps6
  go_wp2_with fail
  refine wp_loop_rounds 1 ?_
  rw [rounds_succ]
  go_wp2
  go_ret
  exact ⟨rfl, hS.congr fun i hi => absurd hi (Nat.not_lt_zero _), hB⟩
theorem toFas_any {w : World} {v : Value} {n : Nat} {G : Nat → (Nat → Nat)} (h : RdV w v n 5 (fun i j => fcl (G i) j)) (hn : n ≤ 1000000000) :
    Calls Try.prog 6 #[v] w fun e w' => e = .returned (.slice (some ⟨w.heap.size, 0, none⟩) n n) ∧ SegV w' w.heap.size 41 n 5 (fun i j => fcl (G i) j) ∧ Below w.heap.size w w' := by
  rcases h with ⟨ao, cap, rfl, rfl⟩ | ⟨b, off, cap, rfl, hc⟩
  · exact toFas_none ao cap G w
  · exact toFas_some b off n cap G w hn hc
theorem szFas_any (ao : Option Addr) (n cap : Nat) (w : World) (hn : n ≤ 9223372036854775807) : Calls Try.prog 4 #[.slice ao n cap, .int .i64 1048576] w fun e w' => e = .returned (.int .i64 (if 1048576 < n then -1 else 1048576 - n)) ∧ w = w' := by
  by_cases h : 1048576 < n
  · rw [if_pos h]
    go_enter Try.func4, Try.ntmps4
    go_wp2
    go_ret
    exact ⟨rfl, rfl⟩
  · rw [if_neg h]
    go_enter Try.func4, Try.ntmps4
    go_wp2
    go_ret
    exact ⟨rfl, rfl⟩
set_option maxRecDepth 20000 in
set_option maxHeartbeats 3200000 in
theorem eqFas_same (b cap b' cap' n : Nat) (F G : Nat → Nat → Nat) (A : Nat → Nat → Option Nat) (w : World) (hn : n ≤ 1000000000000) (hs : SegV w b 41 n 5 (fun i j => fcl (F i) j)) (ht : SegV w b' 41 n 5 (fun i j => fcl (G i) j)) (hF : ∀ i, i < n → Gc (F i) (A i)) (hG : ∀ i, i < n → Gc (G i) (A i)) :
    Calls Try.prog 10 #[.slice (some ⟨b, 0, none⟩) n cap, .slice (some ⟨b', 0, none⟩) n cap'] w fun e w' => e = .returned (.bool true) ∧ Below w.heap.size w w' := by
  have later : ∀ (wr : World) (p : Addr) {v : Value}, w.cell? p = some v → Below w.heap.size w wr → wr.cell? p = some v := fun wr p v h hb => (hb.cell (World.block_lt_of_cell? _ _ h)).trans h
  have HE : Hid (∀ k, k < n → ∀ W, Calls Try.prog 21 #[.agg #[.float .f64 (F k 0), .float .f64 (F k 1), .float .f64 (F k 2), .float .f64 (F k 3), .float .f64 (F k 4)], .agg #[.float .f64 (G k 0), .float .f64 (G k 1), .float .f64 (G k 2), .float .f64 (G k 3), .float .f64 (G k 4)]] W fun e w' => e = .returned (.bool true) ∧ Below W.heap.size W w') := fun k hk W => eqFace_same (hF k hk) (hG k hk) W
  clear hF hG
  go_enter Try.func10, Try.ntmps10
  go_wp2_with fail
  go_loopw [5] (fun i wr => ∃ k : Nat, k ≤ n ∧ i = .int .i64 k ∧ Below w.heap.size w wr) (fun i _ => n - (intOf i).toNat)
  case atStart => exact ⟨0, Nat.zero_le _, rfl, Below.refl _ _⟩
  case round =>
    obtain ⟨k, hk, rfl, hb⟩ := hrel
    by_cases hkn : k < n
    · have p0 : ∀ W, Below w.heap.size w W → W.cell? ⟨b, k * 5, none⟩ = some (.float .f64 (F k 0)) := fun W h => later W _ (hs.cell hkn (show 0 < 5 by omega)) h
      have q0 : ∀ W, Below w.heap.size w W → W.cell? ⟨b', k * 5, none⟩ = some (.float .f64 (G k 0)) := fun W h => later W _ (ht.cell hkn (show 0 < 5 by omega)) h
      have p1 : ∀ W, Below w.heap.size w W → W.cell? ⟨b, k * 5 + 1, none⟩ = some (.float .f64 (F k 1)) := fun W h => later W _ (hs.cell hkn (show 1 < 5 by omega)) h
      have q1 : ∀ W, Below w.heap.size w W → W.cell? ⟨b', k * 5 + 1, none⟩ = some (.float .f64 (G k 1)) := fun W h => later W _ (ht.cell hkn (show 1 < 5 by omega)) h
      have p2 : ∀ W, Below w.heap.size w W → W.cell? ⟨b, k * 5 + 2, none⟩ = some (.float .f64 (F k 2)) := fun W h => later W _ (hs.cell hkn (show 2 < 5 by omega)) h
      have q2 : ∀ W, Below w.heap.size w W → W.cell? ⟨b', k * 5 + 2, none⟩ = some (.float .f64 (G k 2)) := fun W h => later W _ (ht.cell hkn (show 2 < 5 by omega)) h
      have p3 : ∀ W, Below w.heap.size w W → W.cell? ⟨b, k * 5 + 3, none⟩ = some (.float .f64 (F k 3)) := fun W h => later W _ (hs.cell hkn (show 3 < 5 by omega)) h
      have q3 : ∀ W, Below w.heap.size w W → W.cell? ⟨b', k * 5 + 3, none⟩ = some (.float .f64 (G k 3)) := fun W h => later W _ (ht.cell hkn (show 3 < 5 by omega)) h
      have p4 : ∀ W, Below w.heap.size w W → W.cell? ⟨b, k * 5 + 4, none⟩ = some (.float .f64 (F k 4)) := fun W h => later W _ (hs.cell hkn (show 4 < 5 by omega)) h
      have q4 : ∀ W, Below w.heap.size w W → W.cell? ⟨b', k * 5 + 4, none⟩ = some (.float .f64 (G k 4)) := fun W h => later W _ (ht.cell hkn (show 4 < 5 by omega)) h
      have HE2 : Hid (∀ W, Calls Try.prog 21 #[.agg #[.float .f64 (F k 0), .float .f64 (F k 1), .float .f64 (F k 2), .float .f64 (F k 3), .float .f64 (F k 4)], .agg #[.float .f64 (G k 0), .float .f64 (G k 1), .float .f64 (G k 2), .float .f64 (G k 3), .float .f64 (G k 4)]] W fun e w' => e = .returned (.bool true) ∧ Below W.heap.size W w') := HE.out k hkn
      clear hs ht later HE
      go_wp2_with fail
      go_region_held (fun W => Below w.heap.size w W) (first | assumption | exact Below.drew ‹_›)
        (first | (go_at_call 21; refine (HE2.out _).mono ?_; rintro e w1 ⟨rfl, hb1⟩; have hR1 := box_step ‹_› hb1 (Nat.le_refl _)))
      have HB : Hid (Below w.heap.size w w1) := hR1
      clear hR1 hb1 p0 q0 p1 q1 p2 q2 p3 q3 p4 q4
      go_wp2
      go_roundw
      case rel => exact ⟨k + 1, by omega, by simp, HB.out⟩
      case measure => simp [intOf]; omega
    · obtain rfl : k = n := by omega
      clear hs ht later
      go_wp2
      go_ret
      exact ⟨rfl, hb⟩
set_option maxHeartbeats 800000 in
theorem eqFas_none (ao ao' : Option Addr) (cap cap' : Nat) (w : World) : Calls Try.prog 10 #[.slice ao 0 cap, .slice ao' 0 cap'] w fun e w' => e = .returned (.bool true) ∧ Below w.heap.size w w' := by
  go_enter Try.func10, Try.ntmps10
  go_wp2_with fail
  refine wp_loop_rounds 1 ?_
  rw [rounds_succ]
  go_wp2
  go_ret
  exact ⟨rfl, Below.refl _ _⟩
set_option maxRecDepth 20000 in
set_option maxHeartbeats 3200000 in
theorem eqRas_same (b cap b' cap' n : Nat) (F G : Nat → Nat → Nat) (A : Nat → Nat → Option Nat) (w : World) (hn : n ≤ 1000000000000) (hs : SegV w b 33 n 6 (fun i j => fcl (F i) j)) (ht : SegV w b' 33 n 6 (fun i j => fcl (G i) j)) (hF : ∀ i, i < n → Rc (F i) (A i)) (hG : ∀ i, i < n → Rc (G i) (A i)) :
    Calls Try.prog 20 #[.slice (some ⟨b, 0, none⟩) n cap, .slice (some ⟨b', 0, none⟩) n cap'] w fun e w' => e = .returned (.bool true) ∧ Below w.heap.size w w' := by
  have later : ∀ (wr : World) (p : Addr) {v : Value}, w.cell? p = some v → Below w.heap.size w wr → wr.cell? p = some v := fun wr p v h hb => (hb.cell (World.block_lt_of_cell? _ _ h)).trans h
  have HE : Hid (∀ k, k < n → ∀ W, Calls Try.prog 37 #[.agg #[.float .f64 (F k 0), .float .f64 (F k 1), .float .f64 (F k 2), .float .f64 (F k 3), .float .f64 (F k 4), .float .f64 (F k 5)], .agg #[.float .f64 (G k 0), .float .f64 (G k 1), .float .f64 (G k 2), .float .f64 (G k 3), .float .f64 (G k 4), .float .f64 (G k 5)]] W fun e w' => e = .returned (.bool true) ∧ Below W.heap.size W w') := fun k hk W => eqRay_same (hF k hk) (hG k hk) W
  clear hF hG
  go_enter Try.func20, Try.ntmps20
  go_wp2_with fail
  go_loopw [5] (fun i wr => ∃ k : Nat, k ≤ n ∧ i = .int .i64 k ∧ Below w.heap.size w wr) (fun i _ => n - (intOf i).toNat)
  case atStart => exact ⟨0, Nat.zero_le _, rfl, Below.refl _ _⟩
  case round =>
    obtain ⟨k, hk, rfl, hb⟩ := hrel
    by_cases hkn : k < n
    · have p0 : ∀ W, Below w.heap.size w W → W.cell? ⟨b, k * 6, none⟩ = some (.float .f64 (F k 0)) := fun W h => later W _ (hs.cell hkn (show 0 < 6 by omega)) h
      have q0 : ∀ W, Below w.heap.size w W → W.cell? ⟨b', k * 6, none⟩ = some (.float .f64 (G k 0)) := fun W h => later W _ (ht.cell hkn (show 0 < 6 by omega)) h
      have p1 : ∀ W, Below w.heap.size w W → W.cell? ⟨b, k * 6 + 1, none⟩ = some (.float .f64 (F k 1)) := fun W h => later W _ (hs.cell hkn (show 1 < 6 by omega)) h
      have q1 : ∀ W, Below w.heap.size w W → W.cell? ⟨b', k * 6 + 1, none⟩ = some (.float .f64 (G k 1)) := fun W h => later W _ (ht.cell hkn (show 1 < 6 by omega)) h
      have p2 : ∀ W, Below w.heap.size w W → W.cell? ⟨b, k * 6 + 2, none⟩ = some (.float .f64 (F k 2)) := fun W h => later W _ (hs.cell hkn (show 2 < 6 by omega)) h
      have q2 : ∀ W, Below w.heap.size w W → W.cell? ⟨b', k * 6 + 2, none⟩ = some (.float .f64 (G k 2)) := fun W h => later W _ (ht.cell hkn (show 2 < 6 by omega)) h
      have p3 : ∀ W, Below w.heap.size w W → W.cell? ⟨b, k * 6 + 3, none⟩ = some (.float .f64 (F k 3)) := fun W h => later W _ (hs.cell hkn (show 3 < 6 by omega)) h
      have q3 : ∀ W, Below w.heap.size w W → W.cell? ⟨b', k * 6 + 3, none⟩ = some (.float .f64 (G k 3)) := fun W h => later W _ (ht.cell hkn (show 3 < 6 by omega)) h
      have p4 : ∀ W, Below w.heap.size w W → W.cell? ⟨b, k * 6 + 4, none⟩ = some (.float .f64 (F k 4)) := fun W h => later W _ (hs.cell hkn (show 4 < 6 by omega)) h
      have q4 : ∀ W, Below w.heap.size w W → W.cell? ⟨b', k * 6 + 4, none⟩ = some (.float .f64 (G k 4)) := fun W h => later W _ (ht.cell hkn (show 4 < 6 by omega)) h
      have p5 : ∀ W, Below w.heap.size w W → W.cell? ⟨b, k * 6 + 5, none⟩ = some (.float .f64 (F k 5)) := fun W h => later W _ (hs.cell hkn (show 5 < 6 by omega)) h
      have q5 : ∀ W, Below w.heap.size w W → W.cell? ⟨b', k * 6 + 5, none⟩ = some (.float .f64 (G k 5)) := fun W h => later W _ (ht.cell hkn (show 5 < 6 by omega)) h
      have HE2 : Hid (∀ W, Calls Try.prog 37 #[.agg #[.float .f64 (F k 0), .float .f64 (F k 1), .float .f64 (F k 2), .float .f64 (F k 3), .float .f64 (F k 4), .float .f64 (F k 5)], .agg #[.float .f64 (G k 0), .float .f64 (G k 1), .float .f64 (G k 2), .float .f64 (G k 3), .float .f64 (G k 4), .float .f64 (G k 5)]] W fun e w' => e = .returned (.bool true) ∧ Below W.heap.size W w') := HE.out k hkn
      clear hs ht later HE
      go_wp2_with fail
      go_region_held (fun W => Below w.heap.size w W) (first | assumption | exact Below.drew ‹_›)
        (first | (go_at_call 37; refine (HE2.out _).mono ?_; rintro e w1 ⟨rfl, hb1⟩; have hR1 := box_step ‹_› hb1 (Nat.le_refl _)))
      have HB : Hid (Below w.heap.size w w1) := hR1
      clear hR1 hb1 p0 q0 p1 q1 p2 q2 p3 q3 p4 q4 p5 q5
      go_wp2
      go_roundw
      case rel => exact ⟨k + 1, by omega, by simp, HB.out⟩
      case measure => simp [intOf]; omega
    · obtain rfl : k = n := by omega
      clear hs ht later
      go_wp2
      go_ret
      exact ⟨rfl, hb⟩
set_option maxHeartbeats 800000 in
theorem eqRas_none (ao ao' : Option Addr) (cap cap' : Nat) (w : World) : Calls Try.prog 20 #[.slice ao 0 cap, .slice ao' 0 cap'] w fun e w' => e = .returned (.bool true) ∧ Below w.heap.size w w' := by
  go_enter Try.func20, Try.ntmps20
  go_wp2_with fail
  refine wp_loop_rounds 1 ?_
  rw [rounds_succ]
  go_wp2
  go_ret
  exact ⟨rfl, Below.refl _ _⟩
end Go.Proofs.Ytbcidfmfkmeinaa
