/- Fibres, and lists of them: the laws' own copies, comparisons and marks. -/
import Derived.Test.YtfpklfpcencimaaVr
import Derived.Test.YtfpklfpcencimaaNl
namespace Go.Proofs.Ytfpklfpcencimaa
open Go.RowKit
set_option linter.unusedVariables false
set_option linter.unusedSimpArgs false
abbrev Fb := Nt.Fb
def fcell (g : Fb) : Nat → Value
  | 0 => .int .i64 g.a
  | 1 => .int .i64 g.b
  | _ => .int .i64 g.km
def zf : Fb := Nt.nilF
set_option maxRecDepth 20000 in
set_option maxHeartbeats 1600000 in
theorem toFb_any (g : Fb) (w : World) : Calls Try.prog 49 #[.agg #[.int .i64 g.a, .int .i64 g.b, .int .i64 g.km]] w fun e w' => e = .returned (.agg #[.int .i64 g.a, .int .i64 g.b, .int .i64 g.km]) ∧ Below w.heap.size w w' := by
  go_enter Try.func49, Try.ntmps49
  go_wp2
  refine bodyPost_ret (v := .agg #[.int .i64 g.a, .int .i64 g.b, .int .i64 g.km]) (by simp [results, Try.results49, go_sem]) rfl ⟨rfl, ?_⟩
  go_grown
set_option maxRecDepth 20000 in
set_option maxHeartbeats 1600000 in
theorem eqFb_same (g : Fb) (w : World) : Calls Try.prog 55 #[.agg #[.int .i64 g.a, .int .i64 g.b, .int .i64 g.km], .agg #[.int .i64 g.a, .int .i64 g.b, .int .i64 g.km]] w fun e w' => e = .returned (.bool true) ∧ Below w.heap.size w w' := by
  go_enter Try.func55, Try.ntmps55
  go_wp2
  go_ret
  exact ⟨rfl, by go_grown⟩
theorem infoFb : (Try.prog.info? 73).map (fun i => (i.zero, i.size, i.bytes)) = some (some (.agg #[.int .i64 0, .int .i64 0, .int .i64 0]), 3, 24) := by kernel_rfl
theorem makeFb (n : Nat) (hn : n ≤ 1000000000) (w : World) : (Instr.makeSlice 30 (.int .i64 (n : Int)) (.int .i64 (n : Int))).run Try.prog w = .ok (.slice (some ⟨w.heap.size, 0, none⟩) n n) (w.alloc (.cells (madeCells #[.int .i64 0, .int .i64 0, .int .i64 0] (n * 3)) 73)) := by
  obtain ⟨i, hi, hzz⟩ := Option.map_eq_some_iff.1 infoFb
  simp only [Prod.mk.injEq] at hzz
  obtain ⟨hz, hs, hb⟩ := hzz
  have hr := run_make (P := Try.prog) w 30 73 i _ Try.underlying30 hi hz .i64 .i64 n n (by omega) (Int.le_refl _) (by rw [hb]; omega) (by omega)
  rw [hs] at hr
  simpa [Value.cells] using hr
theorem segmadeFb (w : World) (n : Nat) : SegV (w.alloc (.cells (madeCells #[.int .i64 0, .int .i64 0, .int .i64 0] (n * 3)) 73)) w.heap.size 73 n 3 (fun _ j => fcell zf j) := by
  refine ⟨madeCells #[.int .i64 0, .int .i64 0, .int .i64 0] (n * 3), by show (w.heap.push _)[w.heap.size]? = _; simp, fun i hi j hj => ?_⟩
  rw [made_cell (idx_lt hj hi)]
  have e : (i * 3 + j) % 3 = j := by omega
  simp only [List.size_toArray, List.length_cons, List.length_nil, Nat.zero_add, Nat.reduceAdd, e]
  match j, hj with
  | 0, _ => rfl
  | 1, _ => rfl
  | 2, _ => rfl
set_option maxRecDepth 20000 in
set_option maxHeartbeats 3200000 in
theorem toFbs_some (b off n cap : Nat) (G : Nat → Fb) (w : World) (hn : n ≤ 1000000000) (hc : ∀ i, i < n → ∀ j, j < 3 → w.cell? ⟨b, off + i * 3 + j, none⟩ = some (fcell (G i) j)) :
    Calls Try.prog 28 #[.slice (some ⟨b, off, none⟩) n cap] w fun e w' => e = .returned (.slice (some ⟨w.heap.size, 0, none⟩) n n) ∧ SegV w' w.heap.size 73 n 3 (fun i j => fcell (G i) j) ∧ Below w.heap.size w w' := by
  have hmk := makeFb n hn
  have later : ∀ (wr : World) (p : Addr) {v : Value}, w.cell? p = some v → Below w.heap.size w wr → wr.cell? p = some v := fun wr p v h hb => (hb.cell (World.block_lt_of_cell? _ _ h)).trans h
  go_enter Try.func28, Try.ntmps28
  go_wp2_with fail
  clear hmk
  go_loopw [4] (fun i wr => ∃ k : Nat, k ≤ n ∧ i = .int .i64 k ∧ SegV wr w.heap.size 73 n 3 (fun i j => if i < k then fcell (G i) j else fcell zf j) ∧ Below w.heap.size w wr) (fun i _ => n - (intOf i).toNat)
  case atStart => exact ⟨0, Nat.zero_le _, rfl, (segmadeFb w n).congr (fun i _ j _ => by simp), (Below.refl _ _).alloc (Nat.le_refl _) _⟩
  case round =>
    obtain ⟨k, hk, rfl, hs, hb⟩ := hrel
    by_cases hkn : k < n
    · have HS : Hid (SegV wr w.heap.size 73 n 3 (fun i j => if i < k then fcell (G i) j else fcell zf j) ∧ Below w.heap.size w wr) := ⟨hs, hb⟩
      have g0 : wr.cell? ⟨b, off + k * 3, none⟩ = some (.int .i64 (G k).a) := later _ _ (hc k hkn 0 (by omega)) hb
      have g1 : wr.cell? ⟨b, off + k * 3 + 1, none⟩ = some (.int .i64 (G k).b) := later _ _ (hc k hkn 1 (by omega)) hb
      have g2 : wr.cell? ⟨b, off + k * 3 + 2, none⟩ = some (.int .i64 (G k).km) := later _ _ (hc k hkn 2 (by omega)) hb
      clear hs hb hc later
      go_wp2_with fail
      refine (toFb_any (G k) _).mono ?_
      rintro e w1 ⟨rfl, hb1⟩
      obtain ⟨hs, hb⟩ := HS.out
      have e0 : w1.cell? ⟨w.heap.size, k * 3, none⟩ = some (.int .i64 0) := by have := (hs.below hb1).cell hkn (show 0 < 3 by omega); simpa [fcell, zf, Nt.nilF] using this
      have e1 : w1.cell? ⟨w.heap.size, k * 3 + 1, none⟩ = some (.int .i64 0) := by have := (hs.below hb1).cell hkn (show 1 < 3 by omega); simpa [fcell, zf, Nt.nilF] using this
      have e2 : w1.cell? ⟨w.heap.size, k * 3 + 2, none⟩ = some (.int .i64 0) := by have := (hs.below hb1).cell hkn (show 2 < 3 by omega); simpa [fcell, zf, Nt.nilF] using this
      have ef : ∀ j, w1.frozen? ⟨w.heap.size, j, none⟩ = false := fun j => (hs.below hb1).frozen j
      have HB : Hid (Below wr.heap.size wr w1) := hb1
      clear hs hb hb1 g0 g1 g2
      go_wp2
      go_roundw
      case rel =>
        obtain ⟨hs, hb⟩ := HS.out
        have hb1 := HB.out
        have t0 := SegV.set (hs.below hb1) hkn (show 0 < 3 by omega) (.int .i64 (G k).a)
        have t1 := SegV.set t0 hkn (show 1 < 3 by omega) (.int .i64 (G k).b)
        have t2 := SegV.set t1 hkn (show 2 < 3 by omega) (.int .i64 (G k).km)
        refine ⟨k + 1, by omega, by simp, (t2.congr fun i hi j hj => ?_), ((((box_step hb hb1 (Nat.le_refl _)).setCell (Nat.le_refl _) _).setCell (Nat.le_refl _) _).setCell (Nat.le_refl _) _)⟩
        by_cases e : i = k
        · subst e
          match j, hj with
          | 0, _ => simp [fcell]
          | 1, _ => simp [fcell]
          | 2, _ => simp [fcell]
        · by_cases e2 : i < k
          · simp [e, e2, Nat.lt_succ_of_lt e2]
          · have : ¬ i < k + 1 := by omega
            simp [e, e2, this]
      case measure => simp [intOf]; omega
    · obtain rfl : k = n := by omega
      clear hc later
      go_wp2
      go_ret
      exact ⟨rfl, hs.congr fun i hi j hj => by simp [hi], hb⟩
set_option maxHeartbeats 800000 in
theorem toFbs_none (ao : Option Addr) (cap : Nat) (G : Nat → Fb) (w : World) :
    Calls Try.prog 28 #[.slice ao 0 cap] w fun e w' => e = .returned (.slice (some ⟨w.heap.size, 0, none⟩) 0 0) ∧ SegV w' w.heap.size 73 0 3 (fun i j => fcell (G i) j) ∧ Below w.heap.size w w' := by
  have hmk := makeFb 0 (by omega)
  rw [show ((0 : Nat) : Int) = 0 from rfl] at hmk
  have hS := segmadeFb w 0
  have hB : Below w.heap.size w (w.alloc (.cells (madeCells #[.int .i64 0, .int .i64 0, .int .i64 0] (0 * 3)) 73)) := (Below.refl _ _).alloc (Nat.le_refl _) _
  go_enter Try.func28, Try.ntmps28
  go_wp2_with fail
  refine wp_loop_rounds 1 ?_
  rw [rounds_succ]
  go_wp2
  go_ret
  exact ⟨rfl, hS.congr fun i hi => absurd hi (Nat.not_lt_zero _), hB⟩
theorem toFbs_any {w : World} {v : Value} {n : Nat} {G : Nat → Fb} (h : RdV w v n 3 (fun i j => fcell (G i) j)) (hn : n ≤ 1000000000) :
    Calls Try.prog 28 #[v] w fun e w' => e = .returned (.slice (some ⟨w.heap.size, 0, none⟩) n n) ∧ SegV w' w.heap.size 73 n 3 (fun i j => fcell (G i) j) ∧ Below w.heap.size w w' := by
  rcases h with ⟨ao, cap, rfl, rfl⟩ | ⟨b, off, cap, rfl, hc⟩
  · exact toFbs_none ao cap G w
  · exact toFbs_some b off n cap G w hn hc
set_option maxRecDepth 20000 in
set_option maxHeartbeats 3200000 in
theorem eqFbs_same (b cap b' cap' n : Nat) (G : Nat → Fb) (w : World) (hn : n ≤ 1000000000000) (hs : SegV w b 73 n 3 (fun i j => fcell (G i) j)) (ht : SegV w b' 73 n 3 (fun i j => fcell (G i) j)) :
    Calls Try.prog 33 #[.slice (some ⟨b, 0, none⟩) n cap, .slice (some ⟨b', 0, none⟩) n cap'] w fun e w' => e = .returned (.bool true) ∧ Below w.heap.size w w' := by
  have later : ∀ (wr : World) (p : Addr) {v : Value}, w.cell? p = some v → Below w.heap.size w wr → wr.cell? p = some v := fun wr p v h hb => (hb.cell (World.block_lt_of_cell? _ _ h)).trans h
  go_enter Try.func33, Try.ntmps33
  go_wp2_with fail
  go_loopw [5] (fun i wr => ∃ k : Nat, k ≤ n ∧ i = .int .i64 k ∧ Below w.heap.size w wr) (fun i _ => n - (intOf i).toNat)
  case atStart => exact ⟨0, Nat.zero_le _, rfl, Below.refl _ _⟩
  case round =>
    obtain ⟨k, hk, rfl, hb⟩ := hrel
    by_cases hkn : k < n
    · have p0 : ∀ W, Below w.heap.size w W → W.cell? ⟨b, k * 3, none⟩ = some (.int .i64 (G k).a) := fun W h => later W _ (hs.cell hkn (show 0 < 3 by omega)) h
      have q0 : ∀ W, Below w.heap.size w W → W.cell? ⟨b', k * 3, none⟩ = some (.int .i64 (G k).a) := fun W h => later W _ (ht.cell hkn (show 0 < 3 by omega)) h
      have p1 : ∀ W, Below w.heap.size w W → W.cell? ⟨b, k * 3 + 1, none⟩ = some (.int .i64 (G k).b) := fun W h => later W _ (hs.cell hkn (show 1 < 3 by omega)) h
      have q1 : ∀ W, Below w.heap.size w W → W.cell? ⟨b', k * 3 + 1, none⟩ = some (.int .i64 (G k).b) := fun W h => later W _ (ht.cell hkn (show 1 < 3 by omega)) h
      have p2 : ∀ W, Below w.heap.size w W → W.cell? ⟨b, k * 3 + 2, none⟩ = some (.int .i64 (G k).km) := fun W h => later W _ (hs.cell hkn (show 2 < 3 by omega)) h
      have q2 : ∀ W, Below w.heap.size w W → W.cell? ⟨b', k * 3 + 2, none⟩ = some (.int .i64 (G k).km) := fun W h => later W _ (ht.cell hkn (show 2 < 3 by omega)) h
      clear hs ht later
      go_wp2_with fail
      go_region_held (fun W => Below w.heap.size w W) (first | assumption | exact Below.drew ‹_›)
        (first | (go_at_call 55; refine (eqFb_same (G k) _).mono ?_; rintro e w1 ⟨rfl, hb1⟩; have hR1 := box_step ‹_› hb1 (Nat.le_refl _)))
      have HB : Hid (Below w.heap.size w w1) := hR1
      clear hR1 hb1 p0 q0 p1 q1 p2 q2
      go_wp2
      go_roundw
      case rel => exact ⟨k + 1, by omega, by simp, HB.out⟩
      case measure => simp [intOf]; omega
    · obtain rfl : k = n := by omega
      clear hs ht later
      go_wp2
      go_ret
      exact ⟨rfl, hb⟩
/-- The marks of element i, the first one's first being k. -/
def mF (k : Int) (i : Nat) : Int := k + 3 * (i : Int)
def mfb (K : Int) : Fb := ⟨K, K + 1, K + 1 + 1⟩
set_option maxRecDepth 20000 in
set_option maxHeartbeats 3200000 in
theorem markFb_some (g n cap : Nat) (k0 : Int) (f : Nat → Nat → Value) (w : World) (hn : n ≤ 1048576) (hk0 : 0 ≤ k0) (hk1 : k0 ≤ 100000000) (hs : SegV w g 73 n 3 f) :
    Calls Try.prog 34 #[.slice (some ⟨g, 0, none⟩) n cap, .int .i64 k0] w fun e w' => e = .returned (.int .i64 (mF k0 n)) ∧ SegV w' g 73 n 3 (fun i j => fcell (mfb (mF k0 i)) j) ∧ Within g (g + 1) w w' ∧ w'.heap.size = w.heap.size := by
  have HS : Hid (SegV w g 73 n 3 f) := hs
  clear hs
  have hnI : (n : Int) ≤ 1048576 := by omega
  go_enter Try.func34, Try.ntmps34
  go_wp2_with fail
  go_loopw [1, 5] (fun s1 s5 wr => ∃ i : Nat, i ≤ n ∧ s1 = .int .i64 (mF k0 i) ∧ s5 = .int .i64 i ∧ Hid (SegV wr g 73 n 3 (fun a j => if a < i then fcell (mfb (mF k0 a)) j else f a j) ∧ Within g (g + 1) w wr ∧ wr.heap.size = w.heap.size)) (fun _ s5 _ => n - (intOf s5).toNat)
  case atStart => exact ⟨0, Nat.zero_le _, by simp [mF], rfl, HS.out.congr (fun a _ j _ => by simp), Within.refl _ _ _, rfl⟩
  case round =>
    obtain ⟨i, hi, rfl, rfl, HH⟩ := hrel
    by_cases hin : i < n
    · have fz : ∀ j, wr.frozen? ⟨g, j, none⟩ = false := fun j => HH.out.1.frozen j
      have a0 := HH.out.1.cell hin (show 0 < 3 by omega)
      have a1 := HH.out.1.cell hin (show 1 < 3 by omega)
      have a2 := HH.out.1.cell hin (show 2 < 3 by omega)
      simp only [Nat.add_zero, Nat.lt_irrefl, if_false] at a0 a1 a2
      have hiI : (i : Int) < n := by omega
      have hKn : mF k0 (i + 1) = mF k0 i + 1 + 1 + 1 := by unfold mF; omega
      have hK0 : 0 ≤ mF k0 i := by unfold mF; omega
      have hK1 : mF k0 i ≤ 500000000 := by unfold mF; omega
      obtain ⟨K, hK⟩ : ∃ K : Int, K = mF k0 i := ⟨_, rfl⟩
      have HK : Hid (mF k0 (i + 1) = K + 1 + 1 + 1) := by rw [hK]; exact hKn
      rw [← hK] at hK0 hK1 ⊢
      clear hKn
      have HW : Hid (SegV (((wr.setCell ⟨g, i * 3, none⟩ (.int .i64 (K))).setCell ⟨g, i * 3 + 1, none⟩ (.int .i64 (K + 1))).setCell ⟨g, i * 3 + 2, none⟩ (.int .i64 (K + 1 + 1))) g 73 n 3 (fun a j => if a < i + 1 then fcell (mfb (mF k0 a)) j else f a j) ∧ Within g (g + 1) w (((wr.setCell ⟨g, i * 3, none⟩ (.int .i64 (K))).setCell ⟨g, i * 3 + 1, none⟩ (.int .i64 (K + 1))).setCell ⟨g, i * 3 + 2, none⟩ (.int .i64 (K + 1 + 1))) ∧ (((wr.setCell ⟨g, i * 3, none⟩ (.int .i64 (K))).setCell ⟨g, i * 3 + 1, none⟩ (.int .i64 (K + 1))).setCell ⟨g, i * 3 + 2, none⟩ (.int .i64 (K + 1 + 1))).heap.size = w.heap.size) := by
        obtain ⟨h1, h2, h4⟩ := HH.out
        have t0 := SegV.set h1 hin (show 0 < 3 by omega) (.int .i64 (K))
        have t1 := SegV.set t0 hin (show 1 < 3 by omega) (.int .i64 (K + 1))
        have t2 := SegV.set t1 hin (show 2 < 3 by omega) (.int .i64 (K + 1 + 1))
        refine ⟨t2.congr fun a ha j hj => ?_, (((h2.setCell (Nat.le_refl _) (Nat.lt_succ_self _) _).setCell (Nat.le_refl _) (Nat.lt_succ_self _) _).setCell (Nat.le_refl _) (Nat.lt_succ_self _) _), by simpa using h4⟩
        by_cases c : a = i
        · subst c
          have e3 : a < a + 1 := by omega
          rw [← hK]
          match j, hj with
          | 0, _ => simp [e3, fcell, mfb]
          | 1, _ => simp [e3, fcell, mfb]
          | 2, _ => simp [e3, fcell, mfb]
        · by_cases c2 : a < i
          · simp [c, c2, Nat.lt_succ_of_lt c2]
          · have : ¬ a < i + 1 := by omega
            simp [c, c2, this]
      clear hK HH
      go_wp2
      go_roundw
      case rel =>
        refine ⟨i + 1, by omega, by rw [HK.out], by simp, ?_⟩
        first | exact HW | (simp only [Nat.add_assoc, Nat.reduceAdd]; exact HW)
      case measure => simp [intOf]; omega
    · obtain rfl : i = n := by omega
      go_wp2
      go_ret
      exact ⟨rfl, HH.out.1.congr fun a ha j _ => by simp [ha], HH.out.2⟩
set_option maxHeartbeats 800000 in
theorem szFb_any (ao : Option Addr) (n cap : Nat) (left : Int) (w : World) (h0 : 0 ≤ left) (h1 : left ≤ 1048576) (hn : n ≤ 9223372036854775807) :
    Calls Try.prog 24 #[.slice ao n cap, .int .i64 left] w fun e w' => e = .returned (.int .i64 (if left - n < 0 then -1 else left - n)) ∧ w = w' := by
  by_cases h : left - n < 0
  · rw [if_pos h]
    go_enter Try.func24, Try.ntmps24
    go_wp2
    go_ret
    exact ⟨rfl, rfl⟩
  · rw [if_neg h]
    go_enter Try.func24, Try.ntmps24
    go_wp2
    go_ret
    exact ⟨rfl, rfl⟩
end Go.Proofs.Ytfpklfpcencimaa
