/- Spans, and lists of them: the laws' own copies, comparisons and marks. -/
import Derived.Test.YtelejihgechmgaaVr
import Derived.Test.YtelejihgechmgaaPl
namespace Go.Proofs.Ytelejihgechmgaa
open Go.RowKit
set_option linter.unusedVariables false
set_option linter.unusedSimpArgs false
abbrev Sp := Mt.Sp
def scell (g : Sp) : Nat → Value
  | 0 => .int .i64 g.km
  | 1 => .int .i64 g.loss
  | 2 => .int .i64 g.gain
  | _ => .int .i64 g.tilt
def zsp : Sp := ⟨0, 0, 0, 0⟩
set_option maxRecDepth 20000 in
set_option maxHeartbeats 1600000 in
theorem toSp_any (g : Sp) (w : World) : Calls Try.prog 57 #[.agg #[.int .i64 g.km, .int .i64 g.loss, .int .i64 g.gain, .int .i64 g.tilt]] w fun e w' => e = .returned (.agg #[.int .i64 g.km, .int .i64 g.loss, .int .i64 g.gain, .int .i64 g.tilt]) ∧ Below w.heap.size w w' := by
  go_enter Try.func57, Try.ntmps57
  go_wp2
  refine bodyPost_ret (v := .agg #[.int .i64 g.km, .int .i64 g.loss, .int .i64 g.gain, .int .i64 g.tilt]) (by simp [results, Try.results57, go_sem]) rfl ⟨rfl, ?_⟩
  go_grown
set_option maxRecDepth 20000 in
set_option maxHeartbeats 1600000 in
theorem eqSp_same (g : Sp) (w : World) : Calls Try.prog 59 #[.agg #[.int .i64 g.km, .int .i64 g.loss, .int .i64 g.gain, .int .i64 g.tilt], .agg #[.int .i64 g.km, .int .i64 g.loss, .int .i64 g.gain, .int .i64 g.tilt]] w fun e w' => e = .returned (.bool true) ∧ Below w.heap.size w w' := by
  go_enter Try.func59, Try.ntmps59
  go_wp2
  go_ret
  exact ⟨rfl, by go_grown⟩
theorem infoSp : (Try.prog.info? 75).map (fun i => (i.zero, i.size, i.bytes)) = some (some (.agg #[.int .i64 0, .int .i64 0, .int .i64 0, .int .i64 0]), 4, 32) := by kernel_rfl
theorem makeSp (n : Nat) (hn : n ≤ 1000000000) (w : World) : (Instr.makeSlice 28 (.int .i64 (n : Int)) (.int .i64 (n : Int))).run Try.prog w = .ok (.slice (some ⟨w.heap.size, 0, none⟩) n n) (w.alloc (.cells (madeCells #[.int .i64 0, .int .i64 0, .int .i64 0, .int .i64 0] (n * 4)) 75)) := by
  obtain ⟨i, hi, hzz⟩ := Option.map_eq_some_iff.1 infoSp
  simp only [Prod.mk.injEq] at hzz
  obtain ⟨hz, hs, hb⟩ := hzz
  have hr := run_make (P := Try.prog) w 28 75 i _ Try.underlying28 hi hz .i64 .i64 n n (by omega) (Int.le_refl _) (by rw [hb]; omega) (by omega)
  rw [hs] at hr
  simpa [Value.cells] using hr
theorem segmadeSp (w : World) (n : Nat) : SegV (w.alloc (.cells (madeCells #[.int .i64 0, .int .i64 0, .int .i64 0, .int .i64 0] (n * 4)) 75)) w.heap.size 75 n 4 (fun _ j => scell zsp j) := by
  refine ⟨madeCells #[.int .i64 0, .int .i64 0, .int .i64 0, .int .i64 0] (n * 4), by show (w.heap.push _)[w.heap.size]? = _; simp, fun i hi j hj => ?_⟩
  rw [made_cell (idx_lt hj hi)]
  have e : (i * 4 + j) % 4 = j := by omega
  simp only [List.size_toArray, List.length_cons, List.length_nil, Nat.zero_add, Nat.reduceAdd, e]
  match j, hj with
  | 0, _ => rfl
  | 1, _ => rfl
  | 2, _ => rfl
  | 3, _ => rfl
set_option maxRecDepth 20000 in
set_option maxHeartbeats 3200000 in
theorem toSps_some (b off n cap : Nat) (G : Nat → Sp) (w : World) (hn : n ≤ 1000000000) (hc : ∀ i, i < n → ∀ j, j < 4 → w.cell? ⟨b, off + i * 4 + j, none⟩ = some (scell (G i) j)) :
    Calls Try.prog 15 #[.slice (some ⟨b, off, none⟩) n cap] w fun e w' => e = .returned (.slice (some ⟨w.heap.size, 0, none⟩) n n) ∧ SegV w' w.heap.size 75 n 4 (fun i j => scell (G i) j) ∧ Below w.heap.size w w' := by
  have hmk := makeSp n hn
  have later : ∀ (wr : World) (p : Addr) {v : Value}, w.cell? p = some v → Below w.heap.size w wr → wr.cell? p = some v := fun wr p v h hb => (hb.cell (World.block_lt_of_cell? _ _ h)).trans h
  go_enter Try.func15, Try.ntmps15
  go_wp2_with fail
  clear hmk
  go_loopw [4] (fun i wr => ∃ k : Nat, k ≤ n ∧ i = .int .i64 k ∧ SegV wr w.heap.size 75 n 4 (fun i j => if i < k then scell (G i) j else scell zsp j) ∧ Below w.heap.size w wr) (fun i _ => n - (intOf i).toNat)
  case atStart => exact ⟨0, Nat.zero_le _, rfl, (segmadeSp w n).congr (fun i _ j _ => by simp), (Below.refl _ _).alloc (Nat.le_refl _) _⟩
  case round =>
    obtain ⟨k, hk, rfl, hs, hb⟩ := hrel
    by_cases hkn : k < n
    · have HS : Hid (SegV wr w.heap.size 75 n 4 (fun i j => if i < k then scell (G i) j else scell zsp j) ∧ Below w.heap.size w wr) := ⟨hs, hb⟩
      have g0 : wr.cell? ⟨b, off + k * 4, none⟩ = some (.int .i64 (G k).km) := later _ _ (hc k hkn 0 (by omega)) hb
      have g1 : wr.cell? ⟨b, off + k * 4 + 1, none⟩ = some (.int .i64 (G k).loss) := later _ _ (hc k hkn 1 (by omega)) hb
      have g2 : wr.cell? ⟨b, off + k * 4 + 2, none⟩ = some (.int .i64 (G k).gain) := later _ _ (hc k hkn 2 (by omega)) hb
      have g3 : wr.cell? ⟨b, off + k * 4 + 3, none⟩ = some (.int .i64 (G k).tilt) := later _ _ (hc k hkn 3 (by omega)) hb
      clear hs hb hc later
      go_wp2_with fail
      refine (toSp_any (G k) _).mono ?_
      rintro e w1 ⟨rfl, hb1⟩
      obtain ⟨hs, hb⟩ := HS.out
      have e0 : w1.cell? ⟨w.heap.size, k * 4, none⟩ = some (.int .i64 0) := by have := (hs.below hb1).cell hkn (show 0 < 4 by omega); simpa [scell, zsp] using this
      have e1 : w1.cell? ⟨w.heap.size, k * 4 + 1, none⟩ = some (.int .i64 0) := by have := (hs.below hb1).cell hkn (show 1 < 4 by omega); simpa [scell, zsp] using this
      have e2 : w1.cell? ⟨w.heap.size, k * 4 + 2, none⟩ = some (.int .i64 0) := by have := (hs.below hb1).cell hkn (show 2 < 4 by omega); simpa [scell, zsp] using this
      have e3 : w1.cell? ⟨w.heap.size, k * 4 + 3, none⟩ = some (.int .i64 0) := by have := (hs.below hb1).cell hkn (show 3 < 4 by omega); simpa [scell, zsp] using this
      have ef : ∀ j, w1.frozen? ⟨w.heap.size, j, none⟩ = false := fun j => (hs.below hb1).frozen j
      have HB : Hid (Below wr.heap.size wr w1) := hb1
      clear hs hb hb1 g0 g1 g2 g3
      go_wp2
      go_roundw
      case rel =>
        obtain ⟨hs, hb⟩ := HS.out
        have hb1 := HB.out
        have t0 := SegV.set (hs.below hb1) hkn (show 0 < 4 by omega) (.int .i64 (G k).km)
        have t1 := SegV.set t0 hkn (show 1 < 4 by omega) (.int .i64 (G k).loss)
        have t2 := SegV.set t1 hkn (show 2 < 4 by omega) (.int .i64 (G k).gain)
        have t3 := SegV.set t2 hkn (show 3 < 4 by omega) (.int .i64 (G k).tilt)
        refine ⟨k + 1, by omega, by simp, (t3.congr fun i hi j hj => ?_), (((((box_step hb hb1 (Nat.le_refl _)).setCell (Nat.le_refl _) _).setCell (Nat.le_refl _) _).setCell (Nat.le_refl _) _).setCell (Nat.le_refl _) _)⟩
        by_cases e : i = k
        · subst e
          match j, hj with
          | 0, _ => simp [scell]
          | 1, _ => simp [scell]
          | 2, _ => simp [scell]
          | 3, _ => simp [scell]
        · by_cases e2 : i < k
          · simp [e, e2, Nat.lt_succ_of_lt e2]
          · have : ¬ i < k + 1 := by omega
            simp [e, e2, this]
      case measure => simp [intOf]; omega
    · obtain rfl : k = n := by omega
      clear hc later
      go_wp2
      go_ret
      exact ⟨rfl, hs.congr fun i hi j hj => by simp [hi], hb⟩
set_option maxHeartbeats 800000 in
theorem toSps_none (ao : Option Addr) (cap : Nat) (G : Nat → Sp) (w : World) :
    Calls Try.prog 15 #[.slice ao 0 cap] w fun e w' => e = .returned (.slice (some ⟨w.heap.size, 0, none⟩) 0 0) ∧ SegV w' w.heap.size 75 0 4 (fun i j => scell (G i) j) ∧ Below w.heap.size w w' := by
  have hmk := makeSp 0 (by omega)
  rw [show ((0 : Nat) : Int) = 0 from rfl] at hmk
  have hS := segmadeSp w 0
  have hB : Below w.heap.size w (w.alloc (.cells (madeCells #[.int .i64 0, .int .i64 0, .int .i64 0, .int .i64 0] (0 * 4)) 75)) := (Below.refl _ _).alloc (Nat.le_refl _) _
  go_enter Try.func15, Try.ntmps15
  go_wp2_with fail
  refine wp_loop_rounds 1 ?_
  rw [rounds_succ]
  go_wp2
  go_ret
  exact ⟨rfl, hS.congr fun i hi => absurd hi (Nat.not_lt_zero _), hB⟩
theorem toSps_any {w : World} {v : Value} {n : Nat} {G : Nat → Sp} (h : RdV w v n 4 (fun i j => scell (G i) j)) (hn : n ≤ 1000000000) :
    Calls Try.prog 15 #[v] w fun e w' => e = .returned (.slice (some ⟨w.heap.size, 0, none⟩) n n) ∧ SegV w' w.heap.size 75 n 4 (fun i j => scell (G i) j) ∧ Below w.heap.size w w' := by
  rcases h with ⟨ao, cap, rfl, rfl⟩ | ⟨b, off, cap, rfl, hc⟩
  · exact toSps_none ao cap G w
  · exact toSps_some b off n cap G w hn hc
set_option maxRecDepth 20000 in
set_option maxHeartbeats 3200000 in
theorem eqSps_same (b cap b' cap' n : Nat) (G : Nat → Sp) (w : World) (hn : n ≤ 1000000000000) (hs : SegV w b 75 n 4 (fun i j => scell (G i) j)) (ht : SegV w b' 75 n 4 (fun i j => scell (G i) j)) :
    Calls Try.prog 18 #[.slice (some ⟨b, 0, none⟩) n cap, .slice (some ⟨b', 0, none⟩) n cap'] w fun e w' => e = .returned (.bool true) ∧ Below w.heap.size w w' := by
  have later : ∀ (wr : World) (p : Addr) {v : Value}, w.cell? p = some v → Below w.heap.size w wr → wr.cell? p = some v := fun wr p v h hb => (hb.cell (World.block_lt_of_cell? _ _ h)).trans h
  go_enter Try.func18, Try.ntmps18
  go_wp2_with fail
  go_loopw [5] (fun i wr => ∃ k : Nat, k ≤ n ∧ i = .int .i64 k ∧ Below w.heap.size w wr) (fun i _ => n - (intOf i).toNat)
  case atStart => exact ⟨0, Nat.zero_le _, rfl, Below.refl _ _⟩
  case round =>
    obtain ⟨k, hk, rfl, hb⟩ := hrel
    by_cases hkn : k < n
    · have p0 : ∀ W, Below w.heap.size w W → W.cell? ⟨b, k * 4, none⟩ = some (.int .i64 (G k).km) := fun W h => later W _ (hs.cell hkn (show 0 < 4 by omega)) h
      have q0 : ∀ W, Below w.heap.size w W → W.cell? ⟨b', k * 4, none⟩ = some (.int .i64 (G k).km) := fun W h => later W _ (ht.cell hkn (show 0 < 4 by omega)) h
      have p1 : ∀ W, Below w.heap.size w W → W.cell? ⟨b, k * 4 + 1, none⟩ = some (.int .i64 (G k).loss) := fun W h => later W _ (hs.cell hkn (show 1 < 4 by omega)) h
      have q1 : ∀ W, Below w.heap.size w W → W.cell? ⟨b', k * 4 + 1, none⟩ = some (.int .i64 (G k).loss) := fun W h => later W _ (ht.cell hkn (show 1 < 4 by omega)) h
      have p2 : ∀ W, Below w.heap.size w W → W.cell? ⟨b, k * 4 + 2, none⟩ = some (.int .i64 (G k).gain) := fun W h => later W _ (hs.cell hkn (show 2 < 4 by omega)) h
      have q2 : ∀ W, Below w.heap.size w W → W.cell? ⟨b', k * 4 + 2, none⟩ = some (.int .i64 (G k).gain) := fun W h => later W _ (ht.cell hkn (show 2 < 4 by omega)) h
      have p3 : ∀ W, Below w.heap.size w W → W.cell? ⟨b, k * 4 + 3, none⟩ = some (.int .i64 (G k).tilt) := fun W h => later W _ (hs.cell hkn (show 3 < 4 by omega)) h
      have q3 : ∀ W, Below w.heap.size w W → W.cell? ⟨b', k * 4 + 3, none⟩ = some (.int .i64 (G k).tilt) := fun W h => later W _ (ht.cell hkn (show 3 < 4 by omega)) h
      clear hs ht later
      go_wp2_with fail
      go_region_held (fun W => Below w.heap.size w W) (first | assumption | exact Below.drew ‹_›)
        (first | (go_at_call 59; refine (eqSp_same (G k) _).mono ?_; rintro e w1 ⟨rfl, hb1⟩; have hR1 := box_step ‹_› hb1 (Nat.le_refl _)))
      have HB : Hid (Below w.heap.size w w1) := hR1
      clear hR1 hb1 p0 q0 p1 q1 p2 q2 p3 q3
      go_wp2
      go_roundw
      case rel => exact ⟨k + 1, by omega, by simp, HB.out⟩
      case measure => simp [intOf]; omega
    · obtain rfl : k = n := by omega
      clear hs ht later
      go_wp2
      go_ret
      exact ⟨rfl, hb⟩
/-- The marks of element i, the first one's first being k. -/
def mSp (k : Int) (i : Nat) : Int := k + 4 * (i : Int)
def msp (K : Int) : Sp := ⟨K, K + 1, K + 1 + 1, K + 1 + 1 + 1⟩
set_option maxRecDepth 20000 in
set_option maxHeartbeats 3200000 in
theorem markSp_some (g n cap : Nat) (k0 : Int) (f : Nat → Nat → Value) (w : World) (hn : n ≤ 1048576) (hk0 : 0 ≤ k0) (hk1 : k0 ≤ 100000000) (hs : SegV w g 75 n 4 f) :
    Calls Try.prog 19 #[.slice (some ⟨g, 0, none⟩) n cap, .int .i64 k0] w fun e w' => e = .returned (.int .i64 (mSp k0 n)) ∧ SegV w' g 75 n 4 (fun i j => scell (msp (mSp k0 i)) j) ∧ Within g (g + 1) w w' ∧ w'.heap.size = w.heap.size := by
  have HS : Hid (SegV w g 75 n 4 f) := hs
  clear hs
  have hnI : (n : Int) ≤ 1048576 := by omega
  go_enter Try.func19, Try.ntmps19
  go_wp2_with fail
  go_loopw [1, 5] (fun s1 s5 wr => ∃ i : Nat, i ≤ n ∧ s1 = .int .i64 (mSp k0 i) ∧ s5 = .int .i64 i ∧ Hid (SegV wr g 75 n 4 (fun a j => if a < i then scell (msp (mSp k0 a)) j else f a j) ∧ Within g (g + 1) w wr ∧ wr.heap.size = w.heap.size)) (fun _ s5 _ => n - (intOf s5).toNat)
  case atStart => exact ⟨0, Nat.zero_le _, by simp [mSp], rfl, HS.out.congr (fun a _ j _ => by simp), Within.refl _ _ _, rfl⟩
  case round =>
    obtain ⟨i, hi, rfl, rfl, HH⟩ := hrel
    by_cases hin : i < n
    · have fz : ∀ j, wr.frozen? ⟨g, j, none⟩ = false := fun j => HH.out.1.frozen j
      have a0 := HH.out.1.cell hin (show 0 < 4 by omega)
      have a1 := HH.out.1.cell hin (show 1 < 4 by omega)
      have a2 := HH.out.1.cell hin (show 2 < 4 by omega)
      have a3 := HH.out.1.cell hin (show 3 < 4 by omega)
      simp only [Nat.add_zero, Nat.lt_irrefl, if_false] at a0 a1 a2 a3
      have hiI : (i : Int) < n := by omega
      have hKn : mSp k0 (i + 1) = mSp k0 i + 1 + 1 + 1 + 1 := by unfold mSp; omega
      have hK0 : 0 ≤ mSp k0 i := by unfold mSp; omega
      have hK1 : mSp k0 i ≤ 500000000 := by unfold mSp; omega
      obtain ⟨K, hK⟩ : ∃ K : Int, K = mSp k0 i := ⟨_, rfl⟩
      have HK : Hid (mSp k0 (i + 1) = K + 1 + 1 + 1 + 1) := by rw [hK]; exact hKn
      rw [← hK] at hK0 hK1 ⊢
      clear hKn
      have HW : Hid (SegV ((((wr.setCell ⟨g, i * 4, none⟩ (.int .i64 (K))).setCell ⟨g, i * 4 + 1, none⟩ (.int .i64 (K + 1))).setCell ⟨g, i * 4 + 2, none⟩ (.int .i64 (K + 1 + 1))).setCell ⟨g, i * 4 + 3, none⟩ (.int .i64 (K + 1 + 1 + 1))) g 75 n 4 (fun a j => if a < i + 1 then scell (msp (mSp k0 a)) j else f a j) ∧ Within g (g + 1) w ((((wr.setCell ⟨g, i * 4, none⟩ (.int .i64 (K))).setCell ⟨g, i * 4 + 1, none⟩ (.int .i64 (K + 1))).setCell ⟨g, i * 4 + 2, none⟩ (.int .i64 (K + 1 + 1))).setCell ⟨g, i * 4 + 3, none⟩ (.int .i64 (K + 1 + 1 + 1))) ∧ ((((wr.setCell ⟨g, i * 4, none⟩ (.int .i64 (K))).setCell ⟨g, i * 4 + 1, none⟩ (.int .i64 (K + 1))).setCell ⟨g, i * 4 + 2, none⟩ (.int .i64 (K + 1 + 1))).setCell ⟨g, i * 4 + 3, none⟩ (.int .i64 (K + 1 + 1 + 1))).heap.size = w.heap.size) := by
        obtain ⟨h1, h2, h4⟩ := HH.out
        have t0 := SegV.set h1 hin (show 0 < 4 by omega) (.int .i64 (K))
        have t1 := SegV.set t0 hin (show 1 < 4 by omega) (.int .i64 (K + 1))
        have t2 := SegV.set t1 hin (show 2 < 4 by omega) (.int .i64 (K + 1 + 1))
        have t3 := SegV.set t2 hin (show 3 < 4 by omega) (.int .i64 (K + 1 + 1 + 1))
        refine ⟨t3.congr fun a ha j hj => ?_, ((((h2.setCell (Nat.le_refl _) (Nat.lt_succ_self _) _).setCell (Nat.le_refl _) (Nat.lt_succ_self _) _).setCell (Nat.le_refl _) (Nat.lt_succ_self _) _).setCell (Nat.le_refl _) (Nat.lt_succ_self _) _), by simpa using h4⟩
        by_cases c : a = i
        · subst c
          have e3 : a < a + 1 := by omega
          rw [← hK]
          match j, hj with
          | 0, _ => simp [e3, scell, msp]
          | 1, _ => simp [e3, scell, msp]
          | 2, _ => simp [e3, scell, msp]
          | 3, _ => simp [e3, scell, msp]
        · by_cases c2 : a < i
          · simp [c, c2, Nat.lt_succ_of_lt c2]
          · have : ¬ a < i + 1 := by omega
            simp [c, c2, this]
      clear hK HH
      go_wp2
      go_roundw
      case rel =>
        refine ⟨i + 1, by omega, by rw [HK.out], by simp, ?_⟩
        first | exact HW | (simp only [Nat.add_assoc, Nat.reduceAdd]; exact HW)
      case measure => simp [intOf]; omega
    · obtain rfl : i = n := by omega
      go_wp2
      go_ret
      exact ⟨rfl, HH.out.1.congr fun a ha j _ => by simp [ha], HH.out.2⟩
set_option maxHeartbeats 800000 in
theorem szSp_any (ao : Option Addr) (n cap : Nat) (left : Int) (w : World) (h0 : 0 ≤ left) (h1 : left ≤ 1048576) (hn : n ≤ 9223372036854775807) :
    Calls Try.prog 13 #[.slice ao n cap, .int .i64 left] w fun e w' => e = .returned (.int .i64 (if left - n < 0 then -1 else left - n)) ∧ w = w' := by
  by_cases h : left - n < 0
  · rw [if_pos h]
    go_enter Try.func13, Try.ntmps13
    go_wp2
    go_ret
    exact ⟨rfl, rfl⟩
  · rw [if_neg h]
    go_enter Try.func13, Try.ntmps13
    go_wp2
    go_ret
    exact ⟨rfl, rfl⟩
end Go.Proofs.Ytelejihgechmgaa
