/- Plain surfaces: lists of them copied, counted, compared. -/
import Derived.Test.YtjibogknakaokaaPa
namespace Go.Proofs.Ytjibogknakaokaa
open Go.RowKit
set_option linter.unusedVariables false
set_option linter.unusedSimpArgs false
theorem infoPs : (Try.prog.info? 101).map (fun i => (i.zero, i.size, i.bytes)) = some (some (.agg #[.int .i64 0, .int .i64 0, .int .i64 0, .int .i64 0, .int .i64 0, .int .i64 0, .int .i64 0, .int .i64 0, .int .i64 0, .int .i64 0, .bool false]), 11, 88) := by kernel_rfl
theorem makePs (n : Nat) (hn : n ≤ 1000000000) (w : World) : (Instr.makeSlice 45 (.int .i64 (n : Int)) (.int .i64 (n : Int))).run Try.prog w = .ok (.slice (some ⟨w.heap.size, 0, none⟩) n n) (w.alloc (.cells (madeCells #[.int .i64 0, .int .i64 0, .int .i64 0, .int .i64 0, .int .i64 0, .int .i64 0, .int .i64 0, .int .i64 0, .int .i64 0, .int .i64 0, .bool false] (n * 11)) 101)) := by
  obtain ⟨i, hi, hzz⟩ := Option.map_eq_some_iff.1 infoPs
  simp only [Prod.mk.injEq] at hzz
  obtain ⟨hz, hs, hb⟩ := hzz
  have hr := run_make (P := Try.prog) w 45 101 i _ Try.underlying45 hi hz .i64 .i64 n n (by omega) (Int.le_refl _) (by rw [hb]; omega) (by omega)
  rw [hs] at hr
  simpa [Value.cells] using hr
theorem segmadePs (w : World) (n : Nat) : SegV (w.alloc (.cells (madeCells #[.int .i64 0, .int .i64 0, .int .i64 0, .int .i64 0, .int .i64 0, .int .i64 0, .int .i64 0, .int .i64 0, .int .i64 0, .int .i64 0, .bool false] (n * 11)) 101)) w.heap.size 101 n 11 (fun _ j => pcell zps j) := by
  refine ⟨madeCells #[.int .i64 0, .int .i64 0, .int .i64 0, .int .i64 0, .int .i64 0, .int .i64 0, .int .i64 0, .int .i64 0, .int .i64 0, .int .i64 0, .bool false] (n * 11), by show (w.heap.push _)[w.heap.size]? = _; simp, fun i hi j hj => ?_⟩
  rw [made_cell (idx_lt hj hi)]
  have e : (i * 11 + j) % 11 = j := by omega
  simp only [List.size_toArray, List.length_cons, List.length_nil, Nat.zero_add, Nat.reduceAdd, e]
  match j, hj with
  | 0, _ => rfl
  | 1, _ => rfl
  | 2, _ => rfl
  | 3, _ => rfl
  | 4, _ => rfl
  | 5, _ => rfl
  | 6, _ => rfl
  | 7, _ => rfl
  | 8, _ => rfl
  | 9, _ => rfl
  | 10, _ => rfl
set_option maxRecDepth 20000 in
set_option maxHeartbeats 3200000 in
theorem toPss_some (b off n cap : Nat) (G : Nat → Ps) (w : World) (hn : n ≤ 1000000000) (hc : ∀ i, i < n → ∀ j, j < 11 → w.cell? ⟨b, off + i * 11 + j, none⟩ = some (pcell (G i) j)) :
    Calls Try.prog 22 #[.slice (some ⟨b, off, none⟩) n cap] w fun e w' => e = .returned (.slice (some ⟨w.heap.size, 0, none⟩) n n) ∧ SegV w' w.heap.size 101 n 11 (fun i j => pcell (G i) j) ∧ Below w.heap.size w w' := by
  have hmk := makePs n hn
  have later : ∀ (wr : World) (p : Addr) {v : Value}, w.cell? p = some v → Below w.heap.size w wr → wr.cell? p = some v := fun wr p v h hb => (hb.cell (World.block_lt_of_cell? _ _ h)).trans h
  go_enter Try.func22, Try.ntmps22
  go_wp2_with fail
  clear hmk
  go_loopw [4] (fun i wr => ∃ k : Nat, k ≤ n ∧ i = .int .i64 k ∧ SegV wr w.heap.size 101 n 11 (fun i j => if i < k then pcell (G i) j else pcell zps j) ∧ Below w.heap.size w wr) (fun i _ => n - (intOf i).toNat)
  case atStart => exact ⟨0, Nat.zero_le _, rfl, (segmadePs w n).congr (fun i _ j _ => by simp), (Below.refl _ _).alloc (Nat.le_refl _) _⟩
  case round =>
    obtain ⟨k, hk, rfl, hs, hb⟩ := hrel
    by_cases hkn : k < n
    · have HS : Hid (SegV wr w.heap.size 101 n 11 (fun i j => if i < k then pcell (G i) j else pcell zps j) ∧ Below w.heap.size w wr) := ⟨hs, hb⟩
      have g0 : wr.cell? ⟨b, off + k * 11, none⟩ = some (.int .i64 (G k).c.n) := later _ _ (hc k hkn 0 (by omega)) hb
      have g1 : wr.cell? ⟨b, off + k * 11 + 1, none⟩ = some (.int .i64 (G k).c.d) := later _ _ (hc k hkn 1 (by omega)) hb
      have g2 : wr.cell? ⟨b, off + k * 11 + 2, none⟩ = some (.int .i64 (G k).g.n) := later _ _ (hc k hkn 2 (by omega)) hb
      have g3 : wr.cell? ⟨b, off + k * 11 + 3, none⟩ = some (.int .i64 (G k).g.d) := later _ _ (hc k hkn 3 (by omega)) hb
      have g4 : wr.cell? ⟨b, off + k * 11 + 4, none⟩ = some (.int .i64 (G k).x.n) := later _ _ (hc k hkn 4 (by omega)) hb
      have g5 : wr.cell? ⟨b, off + k * 11 + 5, none⟩ = some (.int .i64 (G k).x.d) := later _ _ (hc k hkn 5 (by omega)) hb
      have g6 : wr.cell? ⟨b, off + k * 11 + 6, none⟩ = some (.int .i64 (G k).s.n) := later _ _ (hc k hkn 6 (by omega)) hb
      have g7 : wr.cell? ⟨b, off + k * 11 + 7, none⟩ = some (.int .i64 (G k).s.d) := later _ _ (hc k hkn 7 (by omega)) hb
      have g8 : wr.cell? ⟨b, off + k * 11 + 8, none⟩ = some (.int .i64 (G k).k.n) := later _ _ (hc k hkn 8 (by omega)) hb
      have g9 : wr.cell? ⟨b, off + k * 11 + 9, none⟩ = some (.int .i64 (G k).k.d) := later _ _ (hc k hkn 9 (by omega)) hb
      have g10 : wr.cell? ⟨b, off + k * 11 + 10, none⟩ = some (.bool (G k).t) := later _ _ (hc k hkn 10 (by omega)) hb
      clear hs hb hc later
      go_wp2_with fail
      refine (toPs (G k) _).mono ?_
      rintro e w1 ⟨rfl, hb1⟩
      obtain ⟨hs, hb⟩ := HS.out
      have e0 : w1.cell? ⟨w.heap.size, k * 11, none⟩ = some (.int .i64 0) := by have := (hs.below hb1).cell hkn (show 0 < 11 by omega); simpa [pcell, zps] using this
      have e1 : w1.cell? ⟨w.heap.size, k * 11 + 1, none⟩ = some (.int .i64 0) := by have := (hs.below hb1).cell hkn (show 1 < 11 by omega); simpa [pcell, zps] using this
      have e2 : w1.cell? ⟨w.heap.size, k * 11 + 2, none⟩ = some (.int .i64 0) := by have := (hs.below hb1).cell hkn (show 2 < 11 by omega); simpa [pcell, zps] using this
      have e3 : w1.cell? ⟨w.heap.size, k * 11 + 3, none⟩ = some (.int .i64 0) := by have := (hs.below hb1).cell hkn (show 3 < 11 by omega); simpa [pcell, zps] using this
      have e4 : w1.cell? ⟨w.heap.size, k * 11 + 4, none⟩ = some (.int .i64 0) := by have := (hs.below hb1).cell hkn (show 4 < 11 by omega); simpa [pcell, zps] using this
      have e5 : w1.cell? ⟨w.heap.size, k * 11 + 5, none⟩ = some (.int .i64 0) := by have := (hs.below hb1).cell hkn (show 5 < 11 by omega); simpa [pcell, zps] using this
      have e6 : w1.cell? ⟨w.heap.size, k * 11 + 6, none⟩ = some (.int .i64 0) := by have := (hs.below hb1).cell hkn (show 6 < 11 by omega); simpa [pcell, zps] using this
      have e7 : w1.cell? ⟨w.heap.size, k * 11 + 7, none⟩ = some (.int .i64 0) := by have := (hs.below hb1).cell hkn (show 7 < 11 by omega); simpa [pcell, zps] using this
      have e8 : w1.cell? ⟨w.heap.size, k * 11 + 8, none⟩ = some (.int .i64 0) := by have := (hs.below hb1).cell hkn (show 8 < 11 by omega); simpa [pcell, zps] using this
      have e9 : w1.cell? ⟨w.heap.size, k * 11 + 9, none⟩ = some (.int .i64 0) := by have := (hs.below hb1).cell hkn (show 9 < 11 by omega); simpa [pcell, zps] using this
      have e10 : w1.cell? ⟨w.heap.size, k * 11 + 10, none⟩ = some (.bool false) := by have := (hs.below hb1).cell hkn (show 10 < 11 by omega); simpa [pcell, zps] using this
      have ef : ∀ j, w1.frozen? ⟨w.heap.size, j, none⟩ = false := fun j => (hs.below hb1).frozen j
      have HB : Hid (Below wr.heap.size wr w1) := hb1
      clear hs hb hb1 g0 g1 g2 g3 g4 g5 g6 g7 g8 g9 g10
      go_wp2
      go_roundw
      case rel =>
        obtain ⟨hs, hb⟩ := HS.out
        have hb1 := HB.out
        have t0 := SegV.set (hs.below hb1) hkn (show 0 < 11 by omega) (.int .i64 (G k).c.n)
        have t1 := SegV.set t0 hkn (show 1 < 11 by omega) (.int .i64 (G k).c.d)
        have t2 := SegV.set t1 hkn (show 2 < 11 by omega) (.int .i64 (G k).g.n)
        have t3 := SegV.set t2 hkn (show 3 < 11 by omega) (.int .i64 (G k).g.d)
        have t4 := SegV.set t3 hkn (show 4 < 11 by omega) (.int .i64 (G k).x.n)
        have t5 := SegV.set t4 hkn (show 5 < 11 by omega) (.int .i64 (G k).x.d)
        have t6 := SegV.set t5 hkn (show 6 < 11 by omega) (.int .i64 (G k).s.n)
        have t7 := SegV.set t6 hkn (show 7 < 11 by omega) (.int .i64 (G k).s.d)
        have t8 := SegV.set t7 hkn (show 8 < 11 by omega) (.int .i64 (G k).k.n)
        have t9 := SegV.set t8 hkn (show 9 < 11 by omega) (.int .i64 (G k).k.d)
        have t10 := SegV.set t9 hkn (show 10 < 11 by omega) (.bool (G k).t)
        refine ⟨k + 1, by omega, by simp, (t10.congr fun i hi j hj => ?_), ((((((((((((box_step hb hb1 (Nat.le_refl _)).setCell (Nat.le_refl _) _).setCell (Nat.le_refl _) _).setCell (Nat.le_refl _) _).setCell (Nat.le_refl _) _).setCell (Nat.le_refl _) _).setCell (Nat.le_refl _) _).setCell (Nat.le_refl _) _).setCell (Nat.le_refl _) _).setCell (Nat.le_refl _) _).setCell (Nat.le_refl _) _).setCell (Nat.le_refl _) _)⟩
        by_cases e : i = k
        · subst e
          match j, hj with
          | 0, _ => simp [pcell]
          | 1, _ => simp [pcell]
          | 2, _ => simp [pcell]
          | 3, _ => simp [pcell]
          | 4, _ => simp [pcell]
          | 5, _ => simp [pcell]
          | 6, _ => simp [pcell]
          | 7, _ => simp [pcell]
          | 8, _ => simp [pcell]
          | 9, _ => simp [pcell]
          | 10, _ => simp [pcell]
        · by_cases e2 : i < k
          · simp [e, e2, Nat.lt_succ_of_lt e2]
          · have : ¬ i < k + 1 := by omega
            simp [e, e2, this]
      case measure => simp [intOf]; omega
    · obtain rfl : k = n := by omega
      clear hc later
      go_wp2
      go_ret
      exact ⟨rfl, hs.congr fun i hi j hj => by simp [hi], hb⟩
set_option maxHeartbeats 800000 in
theorem toPss_none (ao : Option Addr) (cap : Nat) (G : Nat → Ps) (w : World) :
    Calls Try.prog 22 #[.slice ao 0 cap] w fun e w' => e = .returned (.slice (some ⟨w.heap.size, 0, none⟩) 0 0) ∧ SegV w' w.heap.size 101 0 11 (fun i j => pcell (G i) j) ∧ Below w.heap.size w w' := by
  have hmk := makePs 0 (by omega)
  rw [show ((0 : Nat) : Int) = 0 from rfl] at hmk
  have hS := segmadePs w 0
  have hB : Below w.heap.size w (w.alloc (.cells (madeCells #[.int .i64 0, .int .i64 0, .int .i64 0, .int .i64 0, .int .i64 0, .int .i64 0, .int .i64 0, .int .i64 0, .int .i64 0, .int .i64 0, .bool false] (0 * 11)) 101)) := (Below.refl _ _).alloc (Nat.le_refl _) _
  go_enter Try.func22, Try.ntmps22
  go_wp2_with fail
  refine wp_loop_rounds 1 ?_
  rw [rounds_succ]
  go_wp2
  go_ret
  exact ⟨rfl, hS.congr fun i hi => absurd hi (Nat.not_lt_zero _), hB⟩
theorem toPss_any {w : World} {v : Value} {n : Nat} {G : Nat → Ps} (h : RdV w v n 11 (fun i j => pcell (G i) j)) (hn : n ≤ 1000000000) :
    Calls Try.prog 22 #[v] w fun e w' => e = .returned (.slice (some ⟨w.heap.size, 0, none⟩) n n) ∧ SegV w' w.heap.size 101 n 11 (fun i j => pcell (G i) j) ∧ Below w.heap.size w w' := by
  rcases h with ⟨ao, cap, rfl, rfl⟩ | ⟨b, off, cap, rfl, hc⟩
  · exact toPss_none ao cap G w
  · exact toPss_some b off n cap G w hn hc
theorem szPss_any (ao : Option Addr) (n cap : Nat) (w : World) (hn : n ≤ 9223372036854775807) : Calls Try.prog 20 #[.slice ao n cap, .int .i64 1048576] w fun e w' => e = .returned (.int .i64 (if 1048576 < n then -1 else 1048576 - n)) ∧ w = w' := by
  by_cases h : 1048576 < n
  · rw [if_pos h]
    go_enter Try.func20, Try.ntmps20
    go_wp2
    go_ret
    exact ⟨rfl, rfl⟩
  · rw [if_neg h]
    go_enter Try.func20, Try.ntmps20
    go_wp2
    go_ret
    exact ⟨rfl, rfl⟩
end Go.Proofs.Ytjibogknakaokaa
