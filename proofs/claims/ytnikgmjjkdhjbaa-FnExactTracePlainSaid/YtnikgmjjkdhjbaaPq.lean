/- Lists of parts: the laws' own copies, counts and comparisons. -/
import Derived.Test.YtnikgmjjkdhjbaaOz
import Derived.Test.YtnikgmjjkdhjbaaPf
import Derived.Test.YtnikgmjjkdhjbaaBk
import Derived.Test.YtnikgmjjkdhjbaaVr
import Derived.Handy
import Derived.Deep.RegionHeld3
namespace Go.Proofs.Ytnikgmjjkdhjbaa
open Go.RowKit
set_option linter.unusedVariables false
set_option linter.unusedSimpArgs false
def ptc (g : Pt) : Nat → Value
  | 0 => .int .i64 g.k
  | 1 => .int .i64 g.x.n
  | _ => .int .i64 g.x.d
def zpt : Pt := ⟨0, ⟨0, 0⟩⟩
theorem toPt (g : Pt) (w : World) : Calls Try.prog 20 #[.agg #[.int .i64 g.k, .int .i64 g.x.n, .int .i64 g.x.d]] w fun e w' => e = .returned (.agg #[.int .i64 g.k, .int .i64 g.x.n, .int .i64 g.x.d]) ∧ Below w.heap.size w w' := toPart g.k g.x w
theorem infoPt : (Try.prog.info? 34).map (fun i => (i.zero, i.size, i.bytes)) = some (some (.agg #[.int .i64 0, .int .i64 0, .int .i64 0]), 3, 24) := by kernel_rfl
theorem makePt (n : Nat) (hn : n ≤ 1000000000) (w : World) : (Instr.makeSlice 35 (.int .i64 (n : Int)) (.int .i64 (n : Int))).run Try.prog w = .ok (.slice (some ⟨w.heap.size, 0, none⟩) n n) (w.alloc (.cells (madeCells #[.int .i64 0, .int .i64 0, .int .i64 0] (n * 3)) 34)) := by
  obtain ⟨i, hi, hzz⟩ := Option.map_eq_some_iff.1 infoPt
  simp only [Prod.mk.injEq] at hzz
  obtain ⟨hz, hs, hb⟩ := hzz
  have hr := run_make (P := Try.prog) w 35 34 i _ Try.underlying35 hi hz .i64 .i64 n n (by omega) (Int.le_refl _) (by rw [hb]; omega) (by omega)
  rw [hs] at hr
  simpa [Value.cells] using hr
theorem segmadePt (w : World) (n : Nat) : SegV (w.alloc (.cells (madeCells #[.int .i64 0, .int .i64 0, .int .i64 0] (n * 3)) 34)) w.heap.size 34 n 3 (fun _ j => ptc zpt j) := by
  refine ⟨madeCells #[.int .i64 0, .int .i64 0, .int .i64 0] (n * 3), by show (w.heap.push _)[w.heap.size]? = _; simp, fun i hi j hj => ?_⟩
  rw [made_cell (idx_lt hj hi)]
  have e : (i * 3 + j) % 3 = j := by omega
  simp only [List.size_toArray, List.length_cons, List.length_nil, Nat.zero_add, Nat.reduceAdd, e]
  match j, hj with
  | 0, _ => rfl
  | 1, _ => rfl
  | 2, _ => rfl
set_option maxRecDepth 20000 in
set_option maxHeartbeats 3200000 in
theorem toPts_some (b off n cap : Nat) (G : Nat → Pt) (w : World) (hn : n ≤ 1000000000) (hc : ∀ i, i < n → ∀ j, j < 3 → w.cell? ⟨b, off + i * 3 + j, none⟩ = some (ptc (G i) j)) :
    Calls Try.prog 23 #[.slice (some ⟨b, off, none⟩) n cap] w fun e w' => e = .returned (.slice (some ⟨w.heap.size, 0, none⟩) n n) ∧ SegV w' w.heap.size 34 n 3 (fun i j => ptc (G i) j) ∧ Below w.heap.size w w' := by
  have hmk := makePt n hn
  have later : ∀ (wr : World) (p : Addr) {v : Value}, w.cell? p = some v → Below w.heap.size w wr → wr.cell? p = some v := fun wr p v h hb => (hb.cell (World.block_lt_of_cell? _ _ h)).trans h
  go_enter Try.func23, Try.ntmps23
  go_wp2_with fail
  clear hmk
  go_loopw [4] (fun i wr => ∃ k : Nat, k ≤ n ∧ i = .int .i64 k ∧ SegV wr w.heap.size 34 n 3 (fun i j => if i < k then ptc (G i) j else ptc zpt j) ∧ Below w.heap.size w wr) (fun i _ => n - (intOf i).toNat)
  case atStart => exact ⟨0, Nat.zero_le _, rfl, (segmadePt w n).congr (fun i _ j _ => by simp), (Below.refl _ _).alloc (Nat.le_refl _) _⟩
  case round =>
    obtain ⟨k, hk, rfl, hs, hb⟩ := hrel
    by_cases hkn : k < n
    · have HS : Hid (SegV wr w.heap.size 34 n 3 (fun i j => if i < k then ptc (G i) j else ptc zpt j) ∧ Below w.heap.size w wr) := ⟨hs, hb⟩
      have g0 : wr.cell? ⟨b, off + k * 3, none⟩ = some (.int .i64 (G k).k) := later _ _ (hc k hkn 0 (by omega)) hb
      have g1 : wr.cell? ⟨b, off + k * 3 + 1, none⟩ = some (.int .i64 (G k).x.n) := later _ _ (hc k hkn 1 (by omega)) hb
      have g2 : wr.cell? ⟨b, off + k * 3 + 2, none⟩ = some (.int .i64 (G k).x.d) := later _ _ (hc k hkn 2 (by omega)) hb
      clear hs hb hc later
      go_wp2_with fail
      refine (toPt (G k) _).mono ?_
      rintro e w1 ⟨rfl, hb1⟩
      obtain ⟨hs, hb⟩ := HS.out
      have e0 : w1.cell? ⟨w.heap.size, k * 3, none⟩ = some (.int .i64 0) := by have := (hs.below hb1).cell hkn (show 0 < 3 by omega); simpa [ptc, zpt] using this
      have e1 : w1.cell? ⟨w.heap.size, k * 3 + 1, none⟩ = some (.int .i64 0) := by have := (hs.below hb1).cell hkn (show 1 < 3 by omega); simpa [ptc, zpt] using this
      have e2 : w1.cell? ⟨w.heap.size, k * 3 + 2, none⟩ = some (.int .i64 0) := by have := (hs.below hb1).cell hkn (show 2 < 3 by omega); simpa [ptc, zpt] using this
      have ef : ∀ j, w1.frozen? ⟨w.heap.size, j, none⟩ = false := fun j => (hs.below hb1).frozen j
      have HB : Hid (Below wr.heap.size wr w1) := hb1
      clear hs hb hb1 g0 g1 g2
      go_wp2
      go_roundw
      case rel =>
        obtain ⟨hs, hb⟩ := HS.out
        have hb1 := HB.out
        have t0 := SegV.set (hs.below hb1) hkn (show 0 < 3 by omega) (.int .i64 (G k).k)
        have t1 := SegV.set t0 hkn (show 1 < 3 by omega) (.int .i64 (G k).x.n)
        have t2 := SegV.set t1 hkn (show 2 < 3 by omega) (.int .i64 (G k).x.d)
        refine ⟨k + 1, by omega, by simp, (t2.congr fun i hi j hj => ?_), ((((box_step hb hb1 (Nat.le_refl _)).setCell (Nat.le_refl _) _).setCell (Nat.le_refl _) _).setCell (Nat.le_refl _) _)⟩
        by_cases e : i = k
        · subst e
          match j, hj with
          | 0, _ => simp [ptc]
          | 1, _ => simp [ptc]
          | 2, _ => simp [ptc]
        · by_cases e2 : i < k
          · simp [e, e2, Nat.lt_succ_of_lt e2]
          · have : ¬ i < k + 1 := by omega
            simp [e, e2, this]
      case measure => simp [intOf]; omega
    · obtain rfl : k = n := by omega
      clear hc later
      go_wp2
      go_ret
      exact ⟨rfl, hs.congr fun i hi j hj => by simp [hi], hb⟩
set_option maxHeartbeats 800000 in
theorem toPts_none (ao : Option Addr) (cap : Nat) (G : Nat → Pt) (w : World) :
    Calls Try.prog 23 #[.slice ao 0 cap] w fun e w' => e = .returned (.slice (some ⟨w.heap.size, 0, none⟩) 0 0) ∧ SegV w' w.heap.size 34 0 3 (fun i j => ptc (G i) j) ∧ Below w.heap.size w w' := by
  have hmk := makePt 0 (by omega)
  rw [show ((0 : Nat) : Int) = 0 from rfl] at hmk
  have hS := segmadePt w 0
  have hB : Below w.heap.size w (w.alloc (.cells (madeCells #[.int .i64 0, .int .i64 0, .int .i64 0] (0 * 3)) 34)) := (Below.refl _ _).alloc (Nat.le_refl _) _
  go_enter Try.func23, Try.ntmps23
  go_wp2_with fail
  refine wp_loop_rounds 1 ?_
  rw [rounds_succ]
  go_wp2
  go_ret
  exact ⟨rfl, hS.congr fun i hi => absurd hi (Nat.not_lt_zero _), hB⟩
theorem toPts_any {w : World} {v : Value} {n : Nat} {G : Nat → Pt} (h : RdV w v n 3 (fun i j => ptc (G i) j)) (hn : n ≤ 1000000000) :
    Calls Try.prog 23 #[v] w fun e w' => e = .returned (.slice (some ⟨w.heap.size, 0, none⟩) n n) ∧ SegV w' w.heap.size 34 n 3 (fun i j => ptc (G i) j) ∧ Below w.heap.size w w' := by
  rcases h with ⟨ao, cap, rfl, rfl⟩ | ⟨b, off, cap, rfl, hc⟩
  · exact toPts_none ao cap G w
  · exact toPts_some b off n cap G w hn hc
theorem szPts_any (ao : Option Addr) (n cap : Nat) (w : World) (hn : n ≤ 9223372036854775807) : Calls Try.prog 22 #[.slice ao n cap, .int .i64 1048576] w fun e w' => e = .returned (.int .i64 (if 1048576 < n then -1 else 1048576 - n)) ∧ w = w' := by
  by_cases h : 1048576 < n
  · rw [if_pos h]
    go_enter Try.func22, Try.ntmps22
    go_wp2
    go_ret
    exact ⟨rfl, rfl⟩
  · rw [if_neg h]
    go_enter Try.func22, Try.ntmps22
    go_wp2
    go_ret
    exact ⟨rfl, rfl⟩
set_option maxRecDepth 20000 in
set_option maxHeartbeats 1600000 in
theorem eqPt_same (g : Pt) (w : World) : Calls Try.prog 75 #[.agg #[.int .i64 g.k, .int .i64 g.x.n, .int .i64 g.x.d], .agg #[.int .i64 g.k, .int .i64 g.x.n, .int .i64 g.x.d]] w fun e w' => e = .returned (.bool true) ∧ Below w.heap.size w w' := by
  have hst : (g.k != g.k) = false := by simp
  go_enter Try.func75, Try.ntmps75
  go_wp2_with fail
  refine (eqFrac_same g.x.n g.x.d _).mono ?_
  rintro e w1 ⟨rfl, hb⟩
  have HO : Hid (Below w.heap.size w w1) := by refine box_step ?_ hb (by simp <;> omega); go_grown
  have X0 : Blk w1 (w.heap.size) #[.int .i64 g.k, .int .i64 g.x.n, .int .i64 g.x.d] 34 := Blk.old ((Blk.alloc (Blk.new (by simp)) _)) hb
  have K0 : Hid (w1.cell? ⟨w.heap.size, 0, none⟩ = some (.int .i64 g.k)) := X0.cell rfl
  have K1 : Hid (w1.cell? ⟨w.heap.size, 1, none⟩ = some (.int .i64 g.x.n)) := X0.cell rfl
  have K2 : Hid (w1.cell? ⟨w.heap.size, 2, none⟩ = some (.int .i64 g.x.d)) := X0.cell rfl
  clear X0
  have X1 : Blk w1 (w.heap.size + 1) #[.int .i64 g.k, .int .i64 g.x.n, .int .i64 g.x.d] 34 := Blk.old ((Blk.new (by simp))) hb
  have K3 : Hid (w1.cell? ⟨w.heap.size + 1, 0, none⟩ = some (.int .i64 g.k)) := X1.cell rfl
  have K4 : Hid (w1.cell? ⟨w.heap.size + 1, 1, none⟩ = some (.int .i64 g.x.n)) := X1.cell rfl
  have K5 : Hid (w1.cell? ⟨w.heap.size + 1, 2, none⟩ = some (.int .i64 g.x.d)) := X1.cell rfl
  clear X1
  clear hb
  have c0 := K0.out
  have c1 := K1.out
  have c2 := K2.out
  have c3 := K3.out
  have c4 := K4.out
  have c5 := K5.out
  go_wp2
  go_ret
  refine ⟨by first | rfl | simp, ?_⟩
  have h := HO.out
  have hsz := h.size
  go_grown
set_option maxRecDepth 20000 in
set_option maxHeartbeats 3200000 in
theorem eqPts_same (b cap b' cap' n : Nat) (G : Nat → Pt) (w : World) (hn : n ≤ 1000000000000) (hs : SegV w b 34 n 3 (fun i j => ptc (G i) j)) (ht : SegV w b' 34 n 3 (fun i j => ptc (G i) j)) :
    Calls Try.prog 26 #[.slice (some ⟨b, 0, none⟩) n cap, .slice (some ⟨b', 0, none⟩) n cap'] w fun e w' => e = .returned (.bool true) ∧ Below w.heap.size w w' := by
  have later : ∀ (wr : World) (p : Addr) {v : Value}, w.cell? p = some v → Below w.heap.size w wr → wr.cell? p = some v := fun wr p v h hb => (hb.cell (World.block_lt_of_cell? _ _ h)).trans h
  go_enter Try.func26, Try.ntmps26
  go_wp2_with fail
  go_loopw [5] (fun i wr => ∃ k : Nat, k ≤ n ∧ i = .int .i64 k ∧ Below w.heap.size w wr) (fun i _ => n - (intOf i).toNat)
  case atStart => exact ⟨0, Nat.zero_le _, rfl, Below.refl _ _⟩
  case round =>
    obtain ⟨k, hk, rfl, hb⟩ := hrel
    by_cases hkn : k < n
    · have p0 : ∀ W, Below w.heap.size w W → W.cell? ⟨b, k * 3, none⟩ = some (.int .i64 (G k).k) := fun W h => later W _ (hs.cell hkn (show 0 < 3 by omega)) h
      have q0 : ∀ W, Below w.heap.size w W → W.cell? ⟨b', k * 3, none⟩ = some (.int .i64 (G k).k) := fun W h => later W _ (ht.cell hkn (show 0 < 3 by omega)) h
      have p1 : ∀ W, Below w.heap.size w W → W.cell? ⟨b, k * 3 + 1, none⟩ = some (.int .i64 (G k).x.n) := fun W h => later W _ (hs.cell hkn (show 1 < 3 by omega)) h
      have q1 : ∀ W, Below w.heap.size w W → W.cell? ⟨b', k * 3 + 1, none⟩ = some (.int .i64 (G k).x.n) := fun W h => later W _ (ht.cell hkn (show 1 < 3 by omega)) h
      have p2 : ∀ W, Below w.heap.size w W → W.cell? ⟨b, k * 3 + 2, none⟩ = some (.int .i64 (G k).x.d) := fun W h => later W _ (hs.cell hkn (show 2 < 3 by omega)) h
      have q2 : ∀ W, Below w.heap.size w W → W.cell? ⟨b', k * 3 + 2, none⟩ = some (.int .i64 (G k).x.d) := fun W h => later W _ (ht.cell hkn (show 2 < 3 by omega)) h
      clear hs ht later
      go_wp2_with fail
      go_region_held (fun W => Below w.heap.size w W) (first | assumption | exact Below.drew ‹_›)
        (first | (go_at_call 75; refine (eqPt_same (G k) _).mono ?_; rintro e w1 ⟨rfl, hb1⟩; have hR1 := box_step ‹_› hb1 (Nat.le_refl _)))
      have HB : Hid (Below w.heap.size w w1) := hR1
      clear hR1 hb1 p0 q0 p1 q1 p2 q2
      go_wp2
      go_roundw
      case rel => exact ⟨k + 1, by omega, by simp, HB.out⟩
      case measure => simp [intOf]; omega
    · obtain rfl : k = n := by omega
      clear hs ht later
      go_wp2
      go_ret
      exact ⟨rfl, hb⟩
theorem Blk.later {W W' : World} {b : Nat} {cs : Array Value} {t : TypeId} (h : Blk W b cs t) (k : Below W.heap.size W W') : Blk W' b cs t := h.old k
theorem SegV.later {W W' : World} {b : Nat} {t : TypeId} {n m : Nat} {f : Nat → Nat → Value} (h : SegV W b t n m f) (k : Below W.heap.size W W') : SegV W' b t n m f := h.below k
theorem rdp_of {W : World} {b n : Nat} {G : Nat → Pt} (h : SegV W b 34 n 3 (fun i j => ptc (G i) j)) : RdP W b 0 n G := fun i hi =>
  ⟨by have := h.cell hi (show 0 < 3 by omega); simpa [ptc] using this, by have := h.cell hi (show 1 < 3 by omega); simpa [ptc] using this, by have := h.cell hi (show 2 < 3 by omega); simpa [ptc] using this⟩
end Go.Proofs.Ytnikgmjjkdhjbaa
