/- Lists of structs of numbers: copies, comparisons, marks; how one that comes in is opened; what is owned; pushes. -/
import Derived.Test.YtclnmikneomccaaSb
namespace Go.Proofs.Ytclnmikneomccaa
open Go.ChangeShapes Go.WideShapes Go.ChangeAt Go.RowKit Go.Joins Go.Deep
set_option linter.unusedVariables false
set_option linter.unusedSimpArgs false
namespace R
structure G where
  ly : Int
  xa : Int
  ya : Int
  xb : Int
  yb : Int
def scell (g : G) : Nat → Value
  | 0 => .int .i64 g.ly
  | 1 => .int .i64 g.xa
  | 2 => .int .i64 g.ya
  | 3 => .int .i64 g.xb
  | _ => .int .i64 g.yb
def zsp : G := ⟨0, 0, 0, 0, 0⟩
set_option maxRecDepth 20000 in
set_option maxHeartbeats 1600000 in
theorem toSp_any (g : G) (w : World) : Calls Try.prog 52 #[.agg #[.int .i64 g.ly, .int .i64 g.xa, .int .i64 g.ya, .int .i64 g.xb, .int .i64 g.yb]] w fun e w' => e = .returned (.agg #[.int .i64 g.ly, .int .i64 g.xa, .int .i64 g.ya, .int .i64 g.xb, .int .i64 g.yb]) ∧ Below w.heap.size w w' := by
  go_enter Try.func52, Try.ntmps52
  go_wp2
  refine bodyPost_ret (v := .agg #[.int .i64 g.ly, .int .i64 g.xa, .int .i64 g.ya, .int .i64 g.xb, .int .i64 g.yb]) (by simp [results, Try.results52, go_sem]) rfl ⟨rfl, ?_⟩
  go_grown
set_option maxRecDepth 20000 in
set_option maxHeartbeats 1600000 in
theorem eqSp_same (g : G) (w : World) : Calls Try.prog 54 #[.agg #[.int .i64 g.ly, .int .i64 g.xa, .int .i64 g.ya, .int .i64 g.xb, .int .i64 g.yb], .agg #[.int .i64 g.ly, .int .i64 g.xa, .int .i64 g.ya, .int .i64 g.xb, .int .i64 g.yb]] w fun e w' => e = .returned (.bool true) ∧ Below w.heap.size w w' := by
  go_enter Try.func54, Try.ntmps54
  go_wp2
  go_ret
  exact ⟨rfl, by go_grown⟩
theorem infoSp : (Try.prog.info? 68).map (fun i => (i.zero, i.size, i.bytes)) = some (some (.agg #[.int .i64 0, .int .i64 0, .int .i64 0, .int .i64 0, .int .i64 0]), 5, 40) := by kernel_rfl
theorem makeSp (n : Nat) (hn : n ≤ 1000000000) (w : World) : (Instr.makeSlice 25 (.int .i64 (n : Int)) (.int .i64 (n : Int))).run Try.prog w = .ok (.slice (some ⟨w.heap.size, 0, none⟩) n n) (w.alloc (.cells (madeCells #[.int .i64 0, .int .i64 0, .int .i64 0, .int .i64 0, .int .i64 0] (n * 5)) 68)) := by
  obtain ⟨i, hi, hzz⟩ := Option.map_eq_some_iff.1 infoSp
  simp only [Prod.mk.injEq] at hzz
  obtain ⟨hz, hs, hb⟩ := hzz
  have hr := run_make (P := Try.prog) w 25 68 i _ Try.underlying25 hi hz .i64 .i64 n n (by omega) (Int.le_refl _) (by rw [hb]; omega) (by omega)
  rw [hs] at hr
  simpa [Value.cells] using hr
theorem segmadeSp (w : World) (n : Nat) : SegV (w.alloc (.cells (madeCells #[.int .i64 0, .int .i64 0, .int .i64 0, .int .i64 0, .int .i64 0] (n * 5)) 68)) w.heap.size 68 n 5 (fun _ j => scell zsp j) := by
  refine ⟨madeCells #[.int .i64 0, .int .i64 0, .int .i64 0, .int .i64 0, .int .i64 0] (n * 5), by show (w.heap.push _)[w.heap.size]? = _; simp, fun i hi j hj => ?_⟩
  rw [made_cell (idx_lt hj hi)]
  have e : (i * 5 + j) % 5 = j := by omega
  simp only [List.size_toArray, List.length_cons, List.length_nil, Nat.zero_add, Nat.reduceAdd, e]
  match j, hj with
  | 0, _ => rfl
  | 1, _ => rfl
  | 2, _ => rfl
  | 3, _ => rfl
  | 4, _ => rfl
set_option maxRecDepth 20000 in
set_option maxHeartbeats 3200000 in
theorem toSps_some (b off n cap : Nat) (G : Nat → G) (w : World) (hn : n ≤ 1000000000) (hc : ∀ i, i < n → ∀ j, j < 5 → w.cell? ⟨b, off + i * 5 + j, none⟩ = some (scell (G i) j)) :
    Calls Try.prog 14 #[.slice (some ⟨b, off, none⟩) n cap] w fun e w' => e = .returned (.slice (some ⟨w.heap.size, 0, none⟩) n n) ∧ SegV w' w.heap.size 68 n 5 (fun i j => scell (G i) j) ∧ Below w.heap.size w w' := by
  have hmk := makeSp n hn
  have later : ∀ (wr : World) (p : Addr) {v : Value}, w.cell? p = some v → Below w.heap.size w wr → wr.cell? p = some v := fun wr p v h hb => (hb.cell (World.block_lt_of_cell? _ _ h)).trans h
  go_enter Try.func14, Try.ntmps14
  go_wp2_with fail
  clear hmk
  go_loopw [4] (fun i wr => ∃ k : Nat, k ≤ n ∧ i = .int .i64 k ∧ SegV wr w.heap.size 68 n 5 (fun i j => if i < k then scell (G i) j else scell zsp j) ∧ Below w.heap.size w wr) (fun i _ => n - (intOf i).toNat)
  case atStart => exact ⟨0, Nat.zero_le _, rfl, (segmadeSp w n).congr (fun i _ j _ => by simp), (Below.refl _ _).alloc (Nat.le_refl _) _⟩
  case round =>
    obtain ⟨k, hk, rfl, hs, hb⟩ := hrel
    by_cases hkn : k < n
    · have HS : Hid (SegV wr w.heap.size 68 n 5 (fun i j => if i < k then scell (G i) j else scell zsp j) ∧ Below w.heap.size w wr) := ⟨hs, hb⟩
      have g0 : wr.cell? ⟨b, off + k * 5, none⟩ = some (.int .i64 (G k).ly) := later _ _ (hc k hkn 0 (by omega)) hb
      have g1 : wr.cell? ⟨b, off + k * 5 + 1, none⟩ = some (.int .i64 (G k).xa) := later _ _ (hc k hkn 1 (by omega)) hb
      have g2 : wr.cell? ⟨b, off + k * 5 + 2, none⟩ = some (.int .i64 (G k).ya) := later _ _ (hc k hkn 2 (by omega)) hb
      have g3 : wr.cell? ⟨b, off + k * 5 + 3, none⟩ = some (.int .i64 (G k).xb) := later _ _ (hc k hkn 3 (by omega)) hb
      have g4 : wr.cell? ⟨b, off + k * 5 + 4, none⟩ = some (.int .i64 (G k).yb) := later _ _ (hc k hkn 4 (by omega)) hb
      clear hs hb hc later
      go_wp2_with fail
      refine (toSp_any (G k) _).mono ?_
      rintro e w1 ⟨rfl, hb1⟩
      obtain ⟨hs, hb⟩ := HS.out
      have e0 : w1.cell? ⟨w.heap.size, k * 5, none⟩ = some (.int .i64 0) := by have := (hs.below hb1).cell hkn (show 0 < 5 by omega); simpa [scell, zsp] using this
      have e1 : w1.cell? ⟨w.heap.size, k * 5 + 1, none⟩ = some (.int .i64 0) := by have := (hs.below hb1).cell hkn (show 1 < 5 by omega); simpa [scell, zsp] using this
      have e2 : w1.cell? ⟨w.heap.size, k * 5 + 2, none⟩ = some (.int .i64 0) := by have := (hs.below hb1).cell hkn (show 2 < 5 by omega); simpa [scell, zsp] using this
      have e3 : w1.cell? ⟨w.heap.size, k * 5 + 3, none⟩ = some (.int .i64 0) := by have := (hs.below hb1).cell hkn (show 3 < 5 by omega); simpa [scell, zsp] using this
      have e4 : w1.cell? ⟨w.heap.size, k * 5 + 4, none⟩ = some (.int .i64 0) := by have := (hs.below hb1).cell hkn (show 4 < 5 by omega); simpa [scell, zsp] using this
      have ef : ∀ j, w1.frozen? ⟨w.heap.size, j, none⟩ = false := fun j => (hs.below hb1).frozen j
      have HB : Hid (Below wr.heap.size wr w1) := hb1
      clear hs hb hb1 g0 g1 g2 g3 g4
      go_wp2
      go_roundw
      case rel =>
        obtain ⟨hs, hb⟩ := HS.out
        have hb1 := HB.out
        have t0 := SegV.set (hs.below hb1) hkn (show 0 < 5 by omega) (.int .i64 (G k).ly)
        have t1 := SegV.set t0 hkn (show 1 < 5 by omega) (.int .i64 (G k).xa)
        have t2 := SegV.set t1 hkn (show 2 < 5 by omega) (.int .i64 (G k).ya)
        have t3 := SegV.set t2 hkn (show 3 < 5 by omega) (.int .i64 (G k).xb)
        have t4 := SegV.set t3 hkn (show 4 < 5 by omega) (.int .i64 (G k).yb)
        refine ⟨k + 1, by omega, by simp, (t4.congr fun i hi j hj => ?_), ((((((box_step hb hb1 (Nat.le_refl _)).setCell (Nat.le_refl _) _).setCell (Nat.le_refl _) _).setCell (Nat.le_refl _) _).setCell (Nat.le_refl _) _).setCell (Nat.le_refl _) _)⟩
        by_cases e : i = k
        · subst e
          match j, hj with
          | 0, _ => simp [scell]
          | 1, _ => simp [scell]
          | 2, _ => simp [scell]
          | 3, _ => simp [scell]
          | 4, _ => simp [scell]
        · by_cases e2 : i < k
          · simp [e, e2, Nat.lt_succ_of_lt e2]
          · have : ¬ i < k + 1 := by omega
            simp [e, e2, this]
      case measure => simp [intOf]; omega
    · obtain rfl : k = n := by omega
      clear hc later
      go_wp2
      go_ret
      exact ⟨rfl, hs.congr fun i hi j hj => by simp [hi], hb⟩
set_option maxHeartbeats 800000 in
theorem toSps_none (ao : Option Addr) (cap : Nat) (G : Nat → G) (w : World) :
    Calls Try.prog 14 #[.slice ao 0 cap] w fun e w' => e = .returned (.slice (some ⟨w.heap.size, 0, none⟩) 0 0) ∧ SegV w' w.heap.size 68 0 5 (fun i j => scell (G i) j) ∧ Below w.heap.size w w' := by
  have hmk := makeSp 0 (by omega)
  rw [show ((0 : Nat) : Int) = 0 from rfl] at hmk
  have hS := segmadeSp w 0
  have hB : Below w.heap.size w (w.alloc (.cells (madeCells #[.int .i64 0, .int .i64 0, .int .i64 0, .int .i64 0, .int .i64 0] (0 * 5)) 68)) := (Below.refl _ _).alloc (Nat.le_refl _) _
  go_enter Try.func14, Try.ntmps14
  go_wp2_with fail
  refine wp_loop_rounds 1 ?_
  rw [rounds_succ]
  go_wp2
  go_ret
  exact ⟨rfl, hS.congr fun i hi => absurd hi (Nat.not_lt_zero _), hB⟩
theorem toSps_any {w : World} {v : Value} {n : Nat} {G : Nat → G} (h : RdV w v n 5 (fun i j => scell (G i) j)) (hn : n ≤ 1000000000) :
    Calls Try.prog 14 #[v] w fun e w' => e = .returned (.slice (some ⟨w.heap.size, 0, none⟩) n n) ∧ SegV w' w.heap.size 68 n 5 (fun i j => scell (G i) j) ∧ Below w.heap.size w w' := by
  rcases h with ⟨ao, cap, rfl, rfl⟩ | ⟨b, off, cap, rfl, hc⟩
  · exact toSps_none ao cap G w
  · exact toSps_some b off n cap G w hn hc
set_option maxRecDepth 20000 in
set_option maxHeartbeats 3200000 in
theorem eqSps_same (b cap b' cap' n : Nat) (G : Nat → G) (w : World) (hn : n ≤ 1000000000000) (hs : SegV w b 68 n 5 (fun i j => scell (G i) j)) (ht : SegV w b' 68 n 5 (fun i j => scell (G i) j)) :
    Calls Try.prog 16 #[.slice (some ⟨b, 0, none⟩) n cap, .slice (some ⟨b', 0, none⟩) n cap'] w fun e w' => e = .returned (.bool true) ∧ Below w.heap.size w w' := by
  have later : ∀ (wr : World) (p : Addr) {v : Value}, w.cell? p = some v → Below w.heap.size w wr → wr.cell? p = some v := fun wr p v h hb => (hb.cell (World.block_lt_of_cell? _ _ h)).trans h
  go_enter Try.func16, Try.ntmps16
  go_wp2_with fail
  go_loopw [5] (fun i wr => ∃ k : Nat, k ≤ n ∧ i = .int .i64 k ∧ Below w.heap.size w wr) (fun i _ => n - (intOf i).toNat)
  case atStart => exact ⟨0, Nat.zero_le _, rfl, Below.refl _ _⟩
  case round =>
    obtain ⟨k, hk, rfl, hb⟩ := hrel
    by_cases hkn : k < n
    · have p0 : ∀ W, Below w.heap.size w W → W.cell? ⟨b, k * 5, none⟩ = some (.int .i64 (G k).ly) := fun W h => later W _ (hs.cell hkn (show 0 < 5 by omega)) h
      have q0 : ∀ W, Below w.heap.size w W → W.cell? ⟨b', k * 5, none⟩ = some (.int .i64 (G k).ly) := fun W h => later W _ (ht.cell hkn (show 0 < 5 by omega)) h
      have p1 : ∀ W, Below w.heap.size w W → W.cell? ⟨b, k * 5 + 1, none⟩ = some (.int .i64 (G k).xa) := fun W h => later W _ (hs.cell hkn (show 1 < 5 by omega)) h
      have q1 : ∀ W, Below w.heap.size w W → W.cell? ⟨b', k * 5 + 1, none⟩ = some (.int .i64 (G k).xa) := fun W h => later W _ (ht.cell hkn (show 1 < 5 by omega)) h
      have p2 : ∀ W, Below w.heap.size w W → W.cell? ⟨b, k * 5 + 2, none⟩ = some (.int .i64 (G k).ya) := fun W h => later W _ (hs.cell hkn (show 2 < 5 by omega)) h
      have q2 : ∀ W, Below w.heap.size w W → W.cell? ⟨b', k * 5 + 2, none⟩ = some (.int .i64 (G k).ya) := fun W h => later W _ (ht.cell hkn (show 2 < 5 by omega)) h
      have p3 : ∀ W, Below w.heap.size w W → W.cell? ⟨b, k * 5 + 3, none⟩ = some (.int .i64 (G k).xb) := fun W h => later W _ (hs.cell hkn (show 3 < 5 by omega)) h
      have q3 : ∀ W, Below w.heap.size w W → W.cell? ⟨b', k * 5 + 3, none⟩ = some (.int .i64 (G k).xb) := fun W h => later W _ (ht.cell hkn (show 3 < 5 by omega)) h
      have p4 : ∀ W, Below w.heap.size w W → W.cell? ⟨b, k * 5 + 4, none⟩ = some (.int .i64 (G k).yb) := fun W h => later W _ (hs.cell hkn (show 4 < 5 by omega)) h
      have q4 : ∀ W, Below w.heap.size w W → W.cell? ⟨b', k * 5 + 4, none⟩ = some (.int .i64 (G k).yb) := fun W h => later W _ (ht.cell hkn (show 4 < 5 by omega)) h
      clear hs ht later
      go_wp2_with fail
      go_region_held (fun W => Below w.heap.size w W) (first | assumption | exact Below.drew ‹_›)
        (first | (go_at_call 54; refine (eqSp_same (G k) _).mono ?_; rintro e w1 ⟨rfl, hb1⟩; have hR1 := box_step ‹_› hb1 (Nat.le_refl _)))
      have HB : Hid (Below w.heap.size w w1) := hR1
      clear hR1 hb1 p0 q0 p1 q1 p2 q2 p3 q3 p4 q4
      go_wp2
      go_roundw
      case rel => exact ⟨k + 1, by omega, by simp, HB.out⟩
      case measure => simp [intOf]; omega
    · obtain rfl : k = n := by omega
      clear hs ht later
      go_wp2
      go_ret
      exact ⟨rfl, hb⟩
/-- The marks of element i, the first one's first being k. -/
def mSp (k : Int) (i : Nat) : Int := k + 5 * (i : Int)
def msp (K : Int) : G := ⟨K, K + 1, K + 1 + 1, K + 1 + 1 + 1, K + 1 + 1 + 1 + 1⟩
set_option maxRecDepth 20000 in
set_option maxHeartbeats 3200000 in
theorem markSp_some (g n cap : Nat) (k0 : Int) (f : Nat → Nat → Value) (w : World) (hn : n ≤ 1048576) (hk0 : 0 ≤ k0) (hk1 : k0 ≤ 100000000) (hs : SegV w g 68 n 5 f) :
    Calls Try.prog 20 #[.slice (some ⟨g, 0, none⟩) n cap, .int .i64 k0] w fun e w' => e = .returned (.int .i64 (mSp k0 n)) ∧ SegV w' g 68 n 5 (fun i j => scell (msp (mSp k0 i)) j) ∧ Within g (g + 1) w w' ∧ w'.heap.size = w.heap.size := by
  have HS : Hid (SegV w g 68 n 5 f) := hs
  clear hs
  have hnI : (n : Int) ≤ 1048576 := by omega
  go_enter Try.func20, Try.ntmps20
  go_wp2_with fail
  go_loopw [1, 5] (fun s1 s5 wr => ∃ i : Nat, i ≤ n ∧ s1 = .int .i64 (mSp k0 i) ∧ s5 = .int .i64 i ∧ Hid (SegV wr g 68 n 5 (fun a j => if a < i then scell (msp (mSp k0 a)) j else f a j) ∧ Within g (g + 1) w wr ∧ wr.heap.size = w.heap.size)) (fun _ s5 _ => n - (intOf s5).toNat)
  case atStart => exact ⟨0, Nat.zero_le _, by simp [mSp], rfl, HS.out.congr (fun a _ j _ => by simp), Within.refl _ _ _, rfl⟩
  case round =>
    obtain ⟨i, hi, rfl, rfl, HH⟩ := hrel
    by_cases hin : i < n
    · have fz : ∀ j, wr.frozen? ⟨g, j, none⟩ = false := fun j => HH.out.1.frozen j
      have a0 := HH.out.1.cell hin (show 0 < 5 by omega)
      have a1 := HH.out.1.cell hin (show 1 < 5 by omega)
      have a2 := HH.out.1.cell hin (show 2 < 5 by omega)
      have a3 := HH.out.1.cell hin (show 3 < 5 by omega)
      have a4 := HH.out.1.cell hin (show 4 < 5 by omega)
      simp only [Nat.add_zero, Nat.lt_irrefl, if_false] at a0 a1 a2 a3 a4
      have hiI : (i : Int) < n := by omega
      have hKn : mSp k0 (i + 1) = mSp k0 i + 1 + 1 + 1 + 1 + 1 := by unfold mSp; omega
      have hK0 : 0 ≤ mSp k0 i := by unfold mSp; omega
      have hK1 : mSp k0 i ≤ 500000000 := by unfold mSp; omega
      obtain ⟨K, hK⟩ : ∃ K : Int, K = mSp k0 i := ⟨_, rfl⟩
      have HK : Hid (mSp k0 (i + 1) = K + 1 + 1 + 1 + 1 + 1) := by rw [hK]; exact hKn
      rw [← hK] at hK0 hK1 ⊢
      clear hKn
      have HW : Hid (SegV (((((wr.setCell ⟨g, i * 5, none⟩ (.int .i64 (K))).setCell ⟨g, i * 5 + 1, none⟩ (.int .i64 (K + 1))).setCell ⟨g, i * 5 + 2, none⟩ (.int .i64 (K + 1 + 1))).setCell ⟨g, i * 5 + 3, none⟩ (.int .i64 (K + 1 + 1 + 1))).setCell ⟨g, i * 5 + 4, none⟩ (.int .i64 (K + 1 + 1 + 1 + 1))) g 68 n 5 (fun a j => if a < i + 1 then scell (msp (mSp k0 a)) j else f a j) ∧ Within g (g + 1) w (((((wr.setCell ⟨g, i * 5, none⟩ (.int .i64 (K))).setCell ⟨g, i * 5 + 1, none⟩ (.int .i64 (K + 1))).setCell ⟨g, i * 5 + 2, none⟩ (.int .i64 (K + 1 + 1))).setCell ⟨g, i * 5 + 3, none⟩ (.int .i64 (K + 1 + 1 + 1))).setCell ⟨g, i * 5 + 4, none⟩ (.int .i64 (K + 1 + 1 + 1 + 1))) ∧ (((((wr.setCell ⟨g, i * 5, none⟩ (.int .i64 (K))).setCell ⟨g, i * 5 + 1, none⟩ (.int .i64 (K + 1))).setCell ⟨g, i * 5 + 2, none⟩ (.int .i64 (K + 1 + 1))).setCell ⟨g, i * 5 + 3, none⟩ (.int .i64 (K + 1 + 1 + 1))).setCell ⟨g, i * 5 + 4, none⟩ (.int .i64 (K + 1 + 1 + 1 + 1))).heap.size = w.heap.size) := by
        obtain ⟨h1, h2, h4⟩ := HH.out
        have t0 := SegV.set h1 hin (show 0 < 5 by omega) (.int .i64 (K))
        have t1 := SegV.set t0 hin (show 1 < 5 by omega) (.int .i64 (K + 1))
        have t2 := SegV.set t1 hin (show 2 < 5 by omega) (.int .i64 (K + 1 + 1))
        have t3 := SegV.set t2 hin (show 3 < 5 by omega) (.int .i64 (K + 1 + 1 + 1))
        have t4 := SegV.set t3 hin (show 4 < 5 by omega) (.int .i64 (K + 1 + 1 + 1 + 1))
        refine ⟨t4.congr fun a ha j hj => ?_, (((((h2.setCell (Nat.le_refl _) (Nat.lt_succ_self _) _).setCell (Nat.le_refl _) (Nat.lt_succ_self _) _).setCell (Nat.le_refl _) (Nat.lt_succ_self _) _).setCell (Nat.le_refl _) (Nat.lt_succ_self _) _).setCell (Nat.le_refl _) (Nat.lt_succ_self _) _), by simpa using h4⟩
        by_cases c : a = i
        · subst c
          have e3 : a < a + 1 := by omega
          rw [← hK]
          match j, hj with
          | 0, _ => simp [e3, scell, msp]
          | 1, _ => simp [e3, scell, msp]
          | 2, _ => simp [e3, scell, msp]
          | 3, _ => simp [e3, scell, msp]
          | 4, _ => simp [e3, scell, msp]
        · by_cases c2 : a < i
          · simp [c, c2, Nat.lt_succ_of_lt c2]
          · have : ¬ a < i + 1 := by omega
            simp [c, c2, this]
      clear hK HH
      go_wp2
      go_roundw
      case rel =>
        refine ⟨i + 1, by omega, by rw [HK.out], by simp, ?_⟩
        first | exact HW | (simp only [Nat.add_assoc, Nat.reduceAdd]; exact HW)
      case measure => simp [intOf]; omega
    · obtain rfl : i = n := by omega
      go_wp2
      go_ret
      exact ⟨rfl, HH.out.1.congr fun a ha j _ => by simp [ha], HH.out.2⟩
set_option maxHeartbeats 800000 in
theorem szSp_any (ao : Option Addr) (n cap : Nat) (left : Int) (w : World) (h0 : 0 ≤ left) (h1 : left ≤ 1048576) (hn : n ≤ 9223372036854775807) :
    Calls Try.prog 12 #[.slice ao n cap, .int .i64 left] w fun e w' => e = .returned (.int .i64 (if left - n < 0 then -1 else left - n)) ∧ w = w' := by
  by_cases h : left - n < 0
  · rw [if_pos h]
    go_enter Try.func12, Try.ntmps12
    go_wp2
    go_ret
    exact ⟨rfl, rfl⟩
  · rw [if_neg h]
    go_enter Try.func12, Try.ntmps12
    go_wp2
    go_ret
    exact ⟨rfl, rfl⟩
/-- Its numbers are numbers of 64 bits. -/
def G.b64 (g : G) : Prop := -9223372036854775808 ≤ g.ly ∧ g.ly ≤ 9223372036854775807 ∧ -9223372036854775808 ≤ g.xa ∧ g.xa ≤ 9223372036854775807 ∧ -9223372036854775808 ≤ g.ya ∧ g.ya ≤ 9223372036854775807 ∧ -9223372036854775808 ≤ g.xb ∧ g.xb ≤ 9223372036854775807 ∧ -9223372036854775808 ≤ g.yb ∧ g.yb ≤ 9223372036854775807
theorem cells70 : Try.prog.cellsOf 70 = 5 := by kernel_rfl
set_option maxRecDepth 100000 in
theorem trod_sp {H : Type} {enc : TypeId × Value → H} {W : World} {base : Nat} {spare : Nat → Bool} {held : Bool} {fuel : Nat} {c0 c1 c2 c3 c4 : Value} {x : DataW H × List MemPlace}
    (hf : DataW.trod enc Try.prog W base spare held fuel 70 [c0, c1, c2, c3, c4] = some x) : ∃ g : G, c0 = .int .i64 g.ly ∧ c1 = .int .i64 g.xa ∧ c2 = .int .i64 g.ya ∧ c3 = .int .i64 g.xb ∧ c4 = .int .i64 g.yb ∧ g.b64 := by
  obtain ⟨xs, m, _, _, _, hlen, hx⟩ := DataW.trod_struct Try.underlying70 hf
  have hl : xs.length = 5 := hlen
  have g0 := hx 0 _ rfl
  have g1 := hx 1 _ rfl
  have g2 := hx 2 _ rfl
  have g3 := hx 3 _ rfl
  have g4 := hx 4 _ rfl
  rw [List.getElem?_eq_getElem (by omega)] at g0 g1 g2 g3 g4
  change DataW.trod enc Try.prog W base spare held m 2 (([c0, c1, c2, c3, c4].drop 0).take (Try.prog.cellsOf 2)) = _ at g0
  change DataW.trod enc Try.prog W base spare held m 2 (([c0, c1, c2, c3, c4].drop 1).take (Try.prog.cellsOf 2)) = _ at g1
  change DataW.trod enc Try.prog W base spare held m 2 (([c0, c1, c2, c3, c4].drop 2).take (Try.prog.cellsOf 2)) = _ at g2
  change DataW.trod enc Try.prog W base spare held m 2 (([c0, c1, c2, c3, c4].drop 3).take (Try.prog.cellsOf 2)) = _ at g3
  change DataW.trod enc Try.prog W base spare held m 2 (([c0, c1, c2, c3, c4].drop 4).take (Try.prog.cellsOf 2)) = _ at g4
  rw [cells2] at g0 g1 g2 g3 g4
  obtain ⟨a0, e0, _, b0⟩ := DataW.trod_int Try.underlying2 g0
  obtain ⟨a1, e1, _, b1⟩ := DataW.trod_int Try.underlying2 g1
  obtain ⟨a2, e2, _, b2⟩ := DataW.trod_int Try.underlying2 g2
  obtain ⟨a3, e3, _, b3⟩ := DataW.trod_int Try.underlying2 g3
  obtain ⟨a4, e4, _, b4⟩ := DataW.trod_int Try.underlying2 g4
  simp at e0 e1 e2 e3 e4
  exact ⟨⟨a0, a1, a2, a3, a4⟩, e0, e1, e2, e3, e4, i64_lo b0, i64_hi b0, i64_lo b1, i64_hi b1, i64_lo b2, i64_hi b2, i64_lo b3, i64_hi b3, i64_lo b4, i64_hi b4⟩
/-- v is a list of n of them, to be read. -/
abbrev Rsp (w : World) (v : Value) (n : Nat) (S : Nat → G) : Prop := RdV w v n 5 (fun i j => scell (S i) j)
set_option maxRecDepth 100000 in
theorem trod_sps {H : Type} {enc : TypeId × Value → H} {W : World} {base : Nat} {spare : Nat → Bool} {held : Bool} {fuel : Nat} {c : Value} {x : DataW H × List MemPlace}
    (hf : DataW.trod enc Try.prog W base spare held fuel 22 [c] = some x) : ∃ (n : Nat) (G : Nat → G), Rsp W c n G ∧ n ≤ 9223372036854775807 ∧ ∀ i, i < n → (G i).b64 := by
  rcases DataW.trod_slice Try.underlying22 hf with ⟨hcs0, _⟩ | ⟨a, len, cap, elems, rest, n, _, hcs0, _, _, hl, hm, hlen, hel, _, _⟩
  · simp at hcs0
    subst hcs0
    exact ⟨0, fun _ => zsp, Or.inl ⟨_, _, rfl, rfl⟩, by omega, fun i hi => absurd hi (Nat.not_lt_zero _)⟩
  simp at hcs0
  subst hcs0
  unfold maxLen at hm
  by_cases h0 : len = 0
  · subst h0
    exact ⟨0, fun _ => zsp, Or.inl ⟨_, _, rfl, rfl⟩, by omega, fun i hi => absurd hi (Nat.not_lt_zero _)⟩
  obtain ⟨G, h1, h2⟩ := rdv_of (W := W) (a := a) (len := len) (cap := cap) (m := 5) (by omega) (by omega) zsp scell (fun g => g.b64) (by
    intro i hi
    have h1 := hel i hi
    rw [cells70] at h1
    obtain ⟨y, hy⟩ : ∃ y, elems[i]? = some y := ⟨elems[i]'(by omega), List.getElem?_eq_getElem (by omega)⟩
    rw [hy, Option.bind_eq_some_iff] at h1
    obtain ⟨cs', hcs, hy'⟩ := h1
    obtain ⟨_, hcl, hce⟩ := World.cells?_some hcs
    match cs', hcl with
    | [c0, c1, c2, c3, c4], _ =>
      obtain ⟨g, e0, e1, e2, e3, e4, hgb⟩ := trod_sp hy'
      refine ⟨g, hgb, fun j hj => ?_⟩
      have e := hce j hj
      rw [e0, e1, e2, e3, e4] at e
      match j, hj with
      | 0, _ => exact e
      | 1, _ => exact e
      | 2, _ => exact e
      | 3, _ => exact e
      | 4, _ => exact e)
  exact ⟨len, G, h1, by omega, h2⟩
set_option maxRecDepth 100000 in
theorem open_spans {H : Type} {enc : TypeId × Value → H} {W : World} {base : Nat} {v : Value} {d : DataW H} {p : List MemPlace} (hv : Value.okWide Try.prog W .any base 22 v)
    (h : DataW.Trod enc Try.prog W 0 (fun _ => true) true 22 v d p) : ∃ (n : Nat) (F : Nat → G), Rsp W v n F ∧ n ≤ 9223372036854775807 ∧ ∀ i, i < n → (F i).b64 := by
  obtain ⟨a0, len, cap, rfl⟩ := okWide_slice Try.underlying22 hv
  obtain ⟨m, hm⟩ := h
  exact trod_sps (c := .slice a0 len cap) (by simpa [Value.cells] using hm)
/-- A list of spans in memory of its own. -/
structure OwS (lo hi : Nat) (w : World) (g n : Nat) (S : Nat → G) : Prop where
  lo : lo ≤ g
  hi : g < hi
  seg : SegV w g 68 n 5 (fun i j => scell (S i) j)
theorem OwS.rd {lo hi : Nat} {w : World} {g n cap : Nat} {F : Nat → G} (h : OwS lo hi w g n F) : Rsp w (.slice (some ⟨g, 0, none⟩) n cap) n F := h.seg.rd
theorem OwS.keep {lo hi : Nat} {w w' : World} {g n : Nat} {F : Nat → G} (h : OwS lo hi w g n F) (hk : Keep lo hi w w') : OwS lo hi w' g n F := ⟨h.lo, h.hi, h.seg.of_block (hk g h.lo h.hi)⟩
theorem toSpans_any {w : World} {v : Value} {n : Nat} {F : Nat → G} (h : Rsp w v n F) (hn : n ≤ 1048576) :
    Calls Try.prog 14 #[v] w fun e w' => e = .returned (.slice (some ⟨w.heap.size, 0, none⟩) n n) ∧ OwS w.heap.size w'.heap.size w' w.heap.size n F ∧ Below w.heap.size w w' :=
  Calls.mono (toSps_any h (by omega)) fun e w' ⟨e1, h1, h2⟩ => ⟨e1, ⟨Nat.le_refl _, h1.lt, h1⟩, h2⟩
theorem eqSpans_any {lo hi lo' hi' : Nat} {w : World} {g g' n cp cp' : Nat} {F : Nat → G} (h : OwS lo hi w g n F) (k : OwS lo' hi' w g' n F) (hn : n ≤ 1048576) :
    Calls Try.prog 16 #[.slice (some ⟨g, 0, none⟩) n cp, .slice (some ⟨g', 0, none⟩) n cp'] w fun e w' => e = .returned (.bool true) ∧ Below w.heap.size w w' := eqSps_same g cp g' cp' n F w (by omega) h.seg k.seg
theorem markSpans_any {lo hi : Nat} {w : World} {g n cp : Nat} {F : Nat → G} (k0 : Int) (h : OwS lo hi w g n F) (h0 : 0 ≤ k0) (h1 : k0 ≤ 100000000) (hn : n ≤ 1048576) :
    Calls Try.prog 20 #[.slice (some ⟨g, 0, none⟩) n cp, .int .i64 k0] w fun e w' => e = .returned (.int .i64 (mSp k0 n)) ∧ Within lo hi w w' :=
  Calls.mono (markSp_some g n cp k0 _ w hn h0 h1 h.seg) fun e w' ⟨e1, _, h3, _⟩ => ⟨e1, h3.mono h.lo h.hi⟩
def spl (s : G) : List Value := [.int .i64 s.ly, .int .i64 s.xa, .int .i64 s.ya, .int .i64 s.xb, .int .i64 s.yb]
theorem spl_at (s : G) (j : Nat) (hj : j < 5) : (spl s)[j]? = some (scell s j) := by
  match j, hj with
  | 0, _ => rfl
  | 1, _ => rfl
  | 2, _ => rfl
  | 3, _ => rfl
  | 4, _ => rfl
/-- The one list and the other. -/
def jn (n : Nat) (S T : Nat → G) : Nat → G := fun i => if i < n then S i else T (i - n)
theorem flat_jn (n m : Nat) (S T : Nat → G) : flat (fun i => spl (jn n S T i)) (n + m) = flat (fun i => spl (S i)) n ++ flat (fun i => spl (T i)) m := by
  rw [← flat_add]
  apply flat_congr
  intro i _
  unfold jn
  by_cases h : i < n
  · simp [h]
  · simp [h]
/-- A list of spans of its own, from lo on, below hi. -/
def OwJ (lo hi : Nat) (w : World) (v : Value) (N : Nat) (S : Nat → G) : Prop := (N = 0 ∧ ∃ ao cap, v = .slice ao 0 cap) ∨ ∃ g cap, v = .slice (some ⟨g, 0, none⟩) N cap ∧ lo ≤ g ∧ g < hi ∧ SegV w g 68 N 5 (fun i j => scell (S i) j)
theorem OwJ.keep {lo hi : Nat} {w w' : World} {v : Value} {N : Nat} {S : Nat → G} (h : OwJ lo hi w v N S) (hk : Keep lo hi w w') : OwJ lo hi w' v N S := by
  rcases h with h | ⟨g, cap, e, h1, h2, h3⟩
  · exact Or.inl h
  · exact Or.inr ⟨g, cap, e, h1, h2, h3.of_block (hk g h1 h2)⟩
theorem OwJ.later {lo hi : Nat} {w w' : World} {v : Value} {N : Nat} {S : Nat → G} (h : OwJ lo hi w v N S) (hb : Below w.heap.size w w') : OwJ lo hi w' v N S := by
  rcases h with h | ⟨g, cap, e, h1, h2, h3⟩
  · exact Or.inl h
  · exact Or.inr ⟨g, cap, e, h1, h2, h3.below hb⟩
theorem OwJ.shape {lo hi : Nat} {w : World} {v : Value} {N : Nat} {S : Nat → G} (h : OwJ lo hi w v N S) : ∃ ao cap, v = .slice ao N cap := by
  rcases h with ⟨rfl, ao, cap, e⟩ | ⟨g, cap, e, _⟩
  · exact ⟨_, _, e⟩
  · exact ⟨_, _, e⟩
/-- What append has built. -/
theorem OwJ.of {lo hi N : Nat} {w : World} {v : Value} {S : Nat → G} (h : w.ownsRow lo 68 5 v N (flat (fun i => spl (S i)) N)) (hh : w.heap.size ≤ hi) : OwJ lo hi w v N S := by
  by_cases hv : v = .slice none 0 0
  · obtain ⟨_, h1 | ⟨g, cap, cur, e, _⟩⟩ := h
    · exact Or.inl ⟨h1.2, _, _, h1.1⟩
    · rw [hv] at e; simp at e
  · obtain ⟨g, cap, e, hg, hs⟩ := owned_segV (m := 5) (fun _ => rfl) (f := fun i j => scell (S i) j) (fun i _ j hj => spl_at _ _ hj) h hv
    exact Or.inr ⟨g, cap, e, hg, Nat.lt_of_lt_of_le hs.lt hh, hs⟩
set_option maxHeartbeats 800000 in
theorem eqSp_none (ao ao' : Option Addr) (cap cap' : Nat) (w : World) : Calls Try.prog 16 #[.slice ao 0 cap, .slice ao' 0 cap'] w fun e w' => e = .returned (.bool true) ∧ Below w.heap.size w w' := by
  go_enter Try.func16, Try.ntmps16
  go_wp2_with fail
  go_loopw [5] (fun i wr => i = .int .i64 0 ∧ wr = w) (fun _ _ => 0)
  case atStart => exact ⟨rfl, rfl⟩
  case round =>
    obtain ⟨rfl, hwr⟩ := hrel
    obtain rfl := hwr.symm
    go_wp2
    go_ret
    exact ⟨rfl, Below.refl _ _⟩
theorem eqJ_any {lo hi lo' hi' N : Nat} {w : World} {v v' : Value} {S : Nat → G} (h : OwJ lo hi w v N S) (h' : OwJ lo' hi' w v' N S) (hn : N ≤ 2097152) : Calls Try.prog 16 #[v, v'] w fun e w' => e = .returned (.bool true) ∧ Below w.heap.size w w' := by
  by_cases hz : N = 0
  · subst hz
    obtain ⟨ao, cap, rfl⟩ := h.shape
    obtain ⟨ao', cap', rfl⟩ := h'.shape
    exact eqSp_none _ _ _ _ w
  · rcases h with ⟨e, _⟩ | ⟨g, cap, rfl, _, _, h⟩
    · exact absurd e hz
    rcases h' with ⟨e, _⟩ | ⟨g', cap', rfl, _, _, h'⟩
    · exact absurd e hz
    exact eqSps_same g cap g' cap' N S w (by omega) h h'
/-- Marked from 1 on, the next mark being r. -/
def MkJ (lo hi : Nat) (w : World) (v : Value) (N : Nat) (r : Int) : Prop := r = mSp 1 N ∧ OwJ lo hi w v N (fun i => msp (mSp 1 i))
theorem MkJ.keep {lo hi : Nat} {w w' : World} {v : Value} {N : Nat} {r : Int} (h : MkJ lo hi w v N r) (hk : Keep lo hi w w') : MkJ lo hi w' v N r := ⟨h.1, h.2.keep hk⟩
theorem MkJ.pos {lo hi : Nat} {w : World} {v : Value} {N : Nat} {r : Int} (h : MkJ lo hi w v N r) : 0 ≤ r := by
  rw [h.1]; unfold mSp; omega
set_option maxHeartbeats 800000 in
theorem markSp_none (ao : Option Addr) (cap : Nat) (k0 : Int) (w : World) : Calls Try.prog 20 #[.slice ao 0 cap, .int .i64 k0] w fun e w' => e = .returned (.int .i64 k0) ∧ w = w' := by
  go_enter Try.func20, Try.ntmps20
  go_wp2_with fail
  go_loopw [1, 5] (fun s i wr => s = .int .i64 k0 ∧ i = .int .i64 0 ∧ wr = w) (fun _ _ _ => 0)
  case atStart => exact ⟨rfl, rfl, rfl⟩
  case round =>
    obtain ⟨rfl, rfl, hwr⟩ := hrel
    obtain rfl := hwr.symm
    go_wp2
    go_ret
    exact ⟨rfl, rfl⟩
theorem markJ_any {lo hi N : Nat} {w : World} {v : Value} {S : Nat → G} (h : OwJ lo hi w v N S) (hn : N ≤ 1048576) (hlo : lo ≤ w.heap.size) (hhi : hi ≤ w.heap.size) : Calls Try.prog 20 #[v, .int .i64 1] w fun e w' => ∃ r, e = .returned (.int .i64 r) ∧ MkJ lo hi w' v N r ∧ Within lo hi w w' := by
  rcases h with ⟨rfl, ao, cap, rfl⟩ | ⟨g, cap, rfl, h1, h2, h3⟩
  · refine (markSp_none ao cap 1 w).mono ?_
    rintro e w' ⟨rfl, rfl⟩
    exact ⟨1, rfl, ⟨rfl, Or.inl ⟨rfl, _, _, rfl⟩⟩, Within.refl _ _ _⟩
  · refine (markSp_some g N cap 1 _ w hn (by omega) (by omega) h3).mono ?_
    rintro e w' ⟨rfl, a1, a2, _⟩
    exact ⟨_, rfl, ⟨rfl, Or.inr ⟨g, cap, rfl, h1, h2, a1⟩⟩, a2.mono h1 h2⟩
set_option maxHeartbeats 800000 in
theorem heldSp_none (ao : Option Addr) (cap : Nat) (k0 : Int) (w : World) : Calls Try.prog 37 #[.slice ao 0 cap, .int .i64 k0] w fun e w' => e = .returned (.int .i64 k0) ∧ w = w' := by
  go_enter Try.func37, Try.ntmps37
  go_wp2_with fail
  go_loopw [1, 5] (fun s i wr => s = .int .i64 k0 ∧ i = .int .i64 0 ∧ wr = w) (fun _ _ _ => 0)
  case atStart => exact ⟨rfl, rfl, rfl⟩
  case round =>
    obtain ⟨rfl, rfl, hwr⟩ := hrel
    obtain rfl := hwr.symm
    go_wp2
    go_ret
    exact ⟨rfl, rfl⟩
set_option maxRecDepth 20000 in
set_option maxHeartbeats 1600000 in
theorem heldSp_some (g n cap : Nat) (k0 : Int) (w : World) (hn : n ≤ 1048576) (hk0 : 0 ≤ k0) (hk1 : k0 ≤ 100000000) (hs : SegV w g 68 n 5 (fun i j => scell (msp (mSp k0 i)) j)) :
    Calls Try.prog 37 #[.slice (some ⟨g, 0, none⟩) n cap, .int .i64 k0] w fun e w' => e = .returned (.int .i64 (mSp k0 n)) ∧ w = w' := by
  have HS : Hid (SegV w g 68 n 5 (fun i j => scell (msp (mSp k0 i)) j)) := hs
  clear hs
  have hnI : (n : Int) ≤ 1048576 := by omega
  go_enter Try.func37, Try.ntmps37
  go_wp2_with fail
  go_loopw [1, 5] (fun s1 s5 wr => wr = w ∧ ∃ i : Nat, i ≤ n ∧ s1 = .int .i64 (mSp k0 i) ∧ s5 = .int .i64 i) (fun _ s5 _ => n - (intOf s5).toNat)
  case atStart => exact ⟨rfl, 0, Nat.zero_le _, by simp [mSp], rfl⟩
  case round =>
    obtain ⟨hwr, i, hi, rfl, rfl⟩ := hrel
    obtain rfl := hwr.symm
    by_cases hin : i < n
    · have a0 := HS.out.cell hin (show 0 < 5 by omega)
      have a1 := HS.out.cell hin (show 1 < 5 by omega)
      have a2 := HS.out.cell hin (show 2 < 5 by omega)
      have a3 := HS.out.cell hin (show 3 < 5 by omega)
      have a4 := HS.out.cell hin (show 4 < 5 by omega)
      simp only [Nat.add_zero, scell, msp] at a0 a1 a2 a3 a4
      have hiI : (i : Int) < n := by omega
      have hKn : mSp k0 (i + 1) = mSp k0 i + 1 + 1 + 1 + 1 + 1 := by unfold mSp; omega
      have hK0 : 0 ≤ mSp k0 i := by unfold mSp; omega
      have hK1 : mSp k0 i ≤ 500000000 := by unfold mSp; omega
      obtain ⟨K, hK⟩ : ∃ K : Int, K = mSp k0 i := ⟨_, rfl⟩
      have HK : Hid (mSp k0 (i + 1) = K + 1 + 1 + 1 + 1 + 1) := by rw [hK]; exact hKn
      rw [← hK] at hK0 hK1 a0 a1 a2 a3 a4 ⊢
      clear hKn hK
      go_wp2
      go_roundw
      case rel => exact ⟨by trivial, i + 1, by omega, by rw [HK.out], by simp⟩
      case measure => simp [intOf]; omega
    · obtain rfl : i = n := by omega
      go_wp2
      go_ret
      exact ⟨rfl, rfl⟩
theorem heldJ_any {lo hi N : Nat} {w : World} {v : Value} {r : Int} (h : MkJ lo hi w v N r) (hn : N ≤ 1048576) : Calls Try.prog 37 #[v, .int .i64 1] w fun e w' => e = .returned (.int .i64 r) ∧ Below w.heap.size w w' := by
  obtain ⟨rfl, ⟨rfl, ao, cap, rfl⟩ | ⟨g, cap, rfl, h1, h2, h3⟩⟩ := h
  · exact (heldSp_none ao cap 1 w).mono fun e w' h => ⟨h.1, by rw [← h.2]; exact Below.refl _ _⟩
  · exact (heldSp_some g N cap 1 w hn (by omega) (by omega) h3).mono fun e w' h => ⟨h.1, by rw [← h.2]; exact Below.refl _ _⟩
theorem infoE : (Try.prog.info? 68).map (fun i => (i.zero, i.size, i.bytes)) = some (some (.agg #[.int .i64 0, .int .i64 0, .int .i64 0, .int .i64 0, .int .i64 0]), 5, 40) := infoSp
/-- 'append(list, spans...)'. -/
theorem pushJ {ops : Array Oper} {rest : List Oper} {o : Oper} {a : Act} {Q : Exit → Act → World → Prop} (hgd : o.guard = none) (s x : Operand)
    (ho : o.op = .call { callee := .builtin .append, args := #[s, x], argTypes := #[25, 25] }) (w : World) (lo : Nat) (v : Value) (k : Nat) (xs : List Value) (hs : a.eval s = v) (hown : w.ownsRow lo 68 5 v k xs) (g n c : Nat) (T : Nat → G) (hx : a.eval x = .slice (some ⟨g, 0, none⟩) n c) (hg : SegV w g 68 n 5 (fun i j => scell (T i) j)) (hk : k ≤ 2097152) (hn : n ≤ 2097152) (hbase : lo ≤ w.heap.size)
    (h : ∀ v' w', w'.ownsRow lo 68 5 v' (k + n) (xs ++ flat (fun i => spl (T i)) n) → Below lo w w' → (∀ b, b < lo → w'.heap[b]? = w.heap[b]?) → wpList Try.prog ops Q rest (a.put o.dst v') w') :
    wpList Try.prog ops Q (o :: rest) a w := by
  obtain ⟨i, h1, h2, h3, h4⟩ := infoV_parts infoE
  have hlen : (flat (fun i => spl (T i)) n).length = n * 5 := flat_len (m := 5) (fun _ => rfl) _
  refine wpList_append_own_at w hgd s x 25 ho lo 68 i _ 5 40 Try.underlying25 h1 h2 h3 h4 rfl (by decide) v k xs hs hown ⟨g, 0, none⟩ n c (flat (fun i => spl (T i)) n) hx hlen (fun j u hj => ?_) (fun u hu => ?_) (by unfold maxLen; omega) (by omega) hbase ?_
  · have hjl := (List.getElem?_eq_some_iff.1 hj).1
    rw [hlen] at hjl
    have e0 : (⟨g, 0, none⟩ : Addr).add j = ⟨g, j, none⟩ := by
      unfold Addr.add
      split
      · rename_i h; subst h; rfl
      · simp
    rw [e0]
    obtain ⟨q, l, rfl, hl⟩ : ∃ q l, j = q * 5 + l ∧ l < 5 := ⟨j / 5, j % 5, by omega, by omega⟩
    rw [flat_at (m := 5) (fun _ => rfl) (by omega) hl, spl_at _ _ hl] at hj
    rw [hg.cell (by omega) hl]
    exact hj
  · obtain ⟨q, _, hq⟩ := List.mem_flatMap.1 hu
    simp [spl] at hq
    rcases hq with rfl | rfl | rfl | rfl | rfl <;> rfl
  · intro v' w' r1 r2 _ _
    have hb : Below lo w w' := (Below.refl lo w).grown r2 hbase fun b hb => (hown.lt b hb).1
    exact h v' w' r1 hb fun b hb2 => hb.block b hb2
/-- 'append(list, one)'. -/
theorem push1 {ops : Array Oper} {rest : List Oper} {o : Oper} {a : Act} {Q : Exit → Act → World → Prop} (hgd : o.guard = none) (s x : Operand)
    (ho : o.op = .call { callee := .builtin .append, args := #[s, x], argTypes := #[25, 25] }) (w : World) (g : G) {W : World} (hW : W = w.alloc (.cells #[.int .i64 g.ly, .int .i64 g.xa, .int .i64 g.ya, .int .i64 g.xb, .int .i64 g.yb] 68)) (lo : Nat) (v : Value) (k : Nat) (S : Nat → G) (hs : a.eval s = v) (hown : w.ownsRow lo 68 5 v k (flat (fun i => spl (S i)) k)) (c : Nat) (hx : a.eval x = .slice (some ⟨w.heap.size, 0, none⟩) 1 c) (hk : k ≤ 1000000000) (hbase : lo ≤ w.heap.size)
    (h : ∀ v' w', w'.ownsRow lo 68 5 v' (k + 1) (flat (fun i => spl (if i = k then g else S i)) (k + 1)) → Below lo w w' → wpList Try.prog ops Q rest (a.put o.dst v') w') :
    wpList Try.prog ops Q (o :: rest) a W := by
  subst hW
  refine pushV hgd s x 25 ho 68 _ 5 40 Try.underlying25 infoE rfl (by decide) (by decide) w (spl g) rfl (by intro u hu; simp [spl] at hu; rcases hu with rfl | rfl | rfl | rfl | rfl <;> rfl) lo v k _ hs hown c hx (by omega) hbase fun v' w' r1 r2 _ => h v' w' ?_ ?_
  · rw [flat_succ]
    have e : flat (fun i => spl (if i = k then g else S i)) k = flat (fun i => spl (S i)) k := flat_congr fun i hi => by
      have : i ≠ k := by omega
      simp [this]
    rw [e]
    simpa using r1
  · exact ((Below.refl lo w).alloc hbase _).grown r2 (by simp; omega) fun b hb => (hown.lt b hb).1
end R
end Go.Proofs.Ytclnmikneomccaa
