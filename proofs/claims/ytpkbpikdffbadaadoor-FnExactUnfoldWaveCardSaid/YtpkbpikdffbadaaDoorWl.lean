/- The program's waves, number by number: read, told, multiplied, added, scaled, inverted: contracts. -/
import Derived.Test.YtpkbpikdffbadaaDoorWi
namespace Go.Proofs.YtpkbpikdffbadaaDoor
open Go.RowKit
set_option linter.unusedVariables false
set_option maxHeartbeats 1000000 in
theorem residues_any {w : World} {vf : Value} {n : Nat} {f : Nat → Int} (hf : RdRow w vf n f)  (hp : 0 < n) (hn : n ≤ 1000000) :
    Calls Tryd.prog 35 #[vf] w fun e w' => e = .returned (.slice (some ⟨w.heap.size, 0, none⟩) n n) ∧ Seg w' w.heap.size 40 0 n (fun i => .int .i64 (Rm.md (f i))) ∧ Below w.heap.size w w' ∧ w'.heap.size = w.heap.size + 1 := by
  obtain ⟨bf, of, capf, rfl, cf⟩ := hf.get hp
  have hmk := run_make_row' (P := Tryd.prog) 35 40 (.int .i64 0) 8 Tryd.underlying35 info56 rfl .i64 .i64 n (by omega) (by omega)
  go_enter Tryd.func35, Tryd.ntmps35
  go_wp2_with fail
  clear hmk
  go_loopw [10] (fun i wr => ∃ k : Nat, k ≤ n ∧ i = .int .i64 k ∧ Seg wr w.heap.size 40 0 n (fun j => if j < k then .int .i64 (Rm.md (f j)) else .int .i64 0) ∧ Below w.heap.size w wr ∧ wr.heap.size = w.heap.size + 1) (fun i _ => n - (intOf i).toNat)
  case atStart => exact ⟨0, Nat.zero_le _, rfl, (seg_made w _ n 40).congr (fun j _ => by simp), (Below.refl _ _).alloc (Nat.le_refl _) _, by simp⟩
  case round =>
    obtain ⟨k, hk, rfl, hs, hb, hz⟩ := hrel
    by_cases hkn : k < n
    · have gf : wr.cell? ⟨bf, of + k, none⟩ = some (.int .i64 (f k)) := (hb.cell (World.block_lt_of_cell? _ _ (cf k hkn))).trans (cf k hkn)
      have g2 : wr.cell? ⟨w.heap.size, k, none⟩ = some (.int .i64 0) := by simpa using hs.cell hkn
      have g3 : wr.frozen? ⟨w.heap.size, k, none⟩ = false := hs.frozen k
      have HS : Hid (Seg wr w.heap.size 40 0 n (fun j => if j < k then .int .i64 (Rm.md (f j)) else .int .i64 0) ∧ Below w.heap.size w wr ∧ wr.heap.size = w.heap.size + 1) := ⟨hs, hb, hz⟩
      clear hs hb hz cf hf
      go_wp2_with fail
      refine (residue_any _ _).mono ?_
      rintro e w1 ⟨rfl, rfl⟩
      go_wp2
      go_roundw
      case rel =>
        obtain ⟨hs, hb, hz⟩ := HS.out
        refine ⟨k + 1, by omega, by simp, ?_, (hb.setCell (by show w.heap.size ≤ w.heap.size; omega) _), by simpa using hz⟩
        have := hs.set k hkn (.int .i64 (Rm.md (f k)))
        rw [Nat.zero_add] at this
        refine this.congr fun j hj => ?_
        by_cases e : j = k
        · subst e; simp
        · by_cases e2 : j < k
          · simp [e, e2, Nat.lt_succ_of_lt e2]
          · simp [e, e2]; intro h; omega
      case measure => simp [intOf]; omega
    · obtain rfl : k = n := by omega
      clear cf hf
      go_wp2
      go_ret
      exact ⟨rfl, hs.congr fun j hj => by simp [hj], hb, hz⟩
set_option maxHeartbeats 1000000 in
theorem waveOf_any {w : World} {vf : Value} {n : Nat} {f : Nat → Int} (hf : RdRow w vf n f)  (hp : 0 < n) (hn : n ≤ 1000000) :
    Calls Tryd.prog 19 #[vf] w fun e w' => e = .returned (.slice (some ⟨w.heap.size, 0, none⟩) n n) ∧ Seg w' w.heap.size 40 0 n (fun i => .int .i64 (Rm.md (f i))) ∧ Below w.heap.size w w' ∧ w'.heap.size = w.heap.size + 1 := by
  obtain ⟨ao, cap, e⟩ : ∃ ao cap, vf = .slice ao n cap := hf.shape
  subst e
  have HF : Hid (RdRow w (.slice ao n cap) n f) := hf
  clear hf
  go_enter Tryd.func19, Tryd.ntmps19
  go_wp2_with fail
  refine (residues_any HF.out hp hn).mono ?_
  rintro e w1 ⟨rfl, hs, hb, hz⟩
  have H : Hid (Seg w1 w.heap.size 40 0 n (fun i => .int .i64 (Rm.md (f i))) ∧ Below w.heap.size w w1 ∧ w1.heap.size = w.heap.size + 1) := ⟨hs, hb, hz⟩
  clear hs hb hz
  go_wp2
  go_ret
  exact ⟨rfl, H.out⟩
set_option maxHeartbeats 1000000 in
theorem tellR_any {w : World} {vf : Value} {n : Nat} {f : Nat → Int} (hf : RdRow w vf n f)  (hp : 0 < n) (hn : n ≤ 1000000) :
    Calls Tryd.prog 37 #[vf] w fun e w' => e = .returned (.slice (some ⟨w.heap.size, 0, none⟩) n n) ∧ Seg w' w.heap.size 2 0 n (fun i => .int .i64 (f i)) ∧ Below w.heap.size w w' ∧ w'.heap.size = w.heap.size + 1 := by
  obtain ⟨bf, of, capf, rfl, cf⟩ := hf.get hp
  have hmk := run_make_row' (P := Tryd.prog) 22 2 (.int .i64 0) 8 Tryd.underlying22 info2 rfl .i64 .i64 n (by omega) (by omega)
  go_enter Tryd.func37, Tryd.ntmps37
  go_wp2_with fail
  clear hmk
  go_loopw [10] (fun i wr => ∃ k : Nat, k ≤ n ∧ i = .int .i64 k ∧ Seg wr w.heap.size 2 0 n (fun j => if j < k then .int .i64 (f j) else .int .i64 0) ∧ Below w.heap.size w wr ∧ wr.heap.size = w.heap.size + 1) (fun i _ => n - (intOf i).toNat)
  case atStart => exact ⟨0, Nat.zero_le _, rfl, (seg_made w _ n 2).congr (fun j _ => by simp), (Below.refl _ _).alloc (Nat.le_refl _) _, by simp⟩
  case round =>
    obtain ⟨k, hk, rfl, hs, hb, hz⟩ := hrel
    by_cases hkn : k < n
    · have gf : wr.cell? ⟨bf, of + k, none⟩ = some (.int .i64 (f k)) := (hb.cell (World.block_lt_of_cell? _ _ (cf k hkn))).trans (cf k hkn)
      have g2 : wr.cell? ⟨w.heap.size, k, none⟩ = some (.int .i64 0) := by simpa using hs.cell hkn
      have g3 : wr.frozen? ⟨w.heap.size, k, none⟩ = false := hs.frozen k
      have HS : Hid (Seg wr w.heap.size 2 0 n (fun j => if j < k then .int .i64 (f j) else .int .i64 0) ∧ Below w.heap.size w wr ∧ wr.heap.size = w.heap.size + 1) := ⟨hs, hb, hz⟩
      clear hs hb hz cf hf
      go_wp2
      go_roundw
      case rel =>
        obtain ⟨hs, hb, hz⟩ := HS.out
        refine ⟨k + 1, by omega, by simp, ?_, (hb.setCell (by show w.heap.size ≤ w.heap.size; omega) _), by simpa using hz⟩
        have := hs.set k hkn (.int .i64 (f k))
        rw [Nat.zero_add] at this
        refine this.congr fun j hj => ?_
        by_cases e : j = k
        · subst e; simp
        · by_cases e2 : j < k
          · simp [e, e2, Nat.lt_succ_of_lt e2]
          · simp [e, e2]; intro h; omega
      case measure => simp [intOf]; omega
    · obtain rfl : k = n := by omega
      clear cf hf
      go_wp2
      go_ret
      exact ⟨rfl, hs.congr fun j hj => by simp [hj], hb, hz⟩
set_option maxHeartbeats 1000000 in
theorem tellWave_any {w : World} {vf : Value} {n : Nat} {f : Nat → Int} (hf : RdRow w vf n f)  (hp : 0 < n) (hn : n ≤ 1000000) :
    Calls Tryd.prog 21 #[vf] w fun e w' => e = .returned (.agg #[.int .i64 0, .slice (some ⟨w.heap.size + 1, 0, none⟩) n n]) ∧ Seg w' (w.heap.size + 1) 2 0 n (fun i => .int .i64 (f i)) ∧ Below w.heap.size w w' ∧ w'.heap.size = w.heap.size + 2 := by
  obtain ⟨ao, cap, e⟩ : ∃ ao cap, vf = .slice ao n cap := hf.shape
  subst e
  have HF : ∀ o, Hid (RdRow (w.alloc o) (.slice ao n cap) n f) := fun o => hf.later ((Below.refl _ _).alloc (Nat.le_refl _) _)
  clear hf
  go_enter Tryd.func21, Tryd.ntmps21
  go_wp2_with fail
  refine (tellR_any (HF _).out hp hn).mono ?_
  rintro e w1 ⟨rfl, hs, hb, hz⟩
  simp only [World.size_alloc] at hs hb hz ⊢
  have hR : w1.heap[w.heap.size]? = some (.cells #[.int .i64 0, .slice none 0 0] 24 (0, 0)) := (hb.block _ (by omega)).trans (heap_alloc_new _ _)
  have c0 : w1.cell? ⟨w.heap.size, 0, none⟩ = some (.int .i64 0) := by simp [World.cell?, hR]
  have c1 : w1.cell? ⟨w.heap.size, 1, none⟩ = some (.slice none 0 0) := by simp [World.cell?, hR]
  have f0 : w1.frozen? ⟨w.heap.size, 0, none⟩ = false := by simp [World.frozen?, hR]
  have f1 : w1.frozen? ⟨w.heap.size, 1, none⟩ = false := by simp [World.frozen?, hR]
  have H : Hid (Seg w1 (w.heap.size + 1) 2 0 n (fun i => .int .i64 (f i)) ∧ Below w.heap.size w w1 ∧ w1.heap.size = w.heap.size + 2) := ⟨hs, ((Below.refl _ _).alloc (Nat.le_refl _) _).trans (hb.mono (by omega)), by omega⟩
  clear hs hb hz hR HF
  go_wp2
  refine bodyPost_ret (v := .agg #[.int .i64 0, .slice (some ⟨w.heap.size + 1, 0, none⟩) n n]) (by simp [results, Tryd.results21, go_sem, c0, c1]) rfl ?_
  obtain ⟨hs, hb, hz⟩ := H.out
  exact ⟨rfl, (hs.setOther (by show w.heap.size + 1 ≠ w.heap.size; omega) _).setOther (by show w.heap.size + 1 ≠ w.heap.size; omega) _, (hb.setCell (Nat.le_refl _) _).setCell (Nat.le_refl _) _, by simpa using hz⟩
set_option maxHeartbeats 1000000 in
theorem through_any {w : World} {vf vg : Value} {n : Nat} {f : Nat → Int} {g : Nat → Int} (hf : RdRow w vf n f) (hg : RdRow w vg n g)  (hp : 0 < n) (hn : n ≤ 1000000) :
    Calls Tryd.prog 23 #[vf, vg] w fun e w' => e = .returned (.slice (some ⟨w.heap.size, 0, none⟩) n n) ∧ Seg w' w.heap.size 40 0 n (fun i => .int .i64 (Rm.mulM (f i) (g i))) ∧ Below w.heap.size w w' ∧ w'.heap.size = w.heap.size + 1 := by
  obtain ⟨bf, of, capf, rfl, cf⟩ := hf.get hp
  obtain ⟨bg, og, capg, rfl, cg⟩ := hg.get hp
  have hmk := run_make_row' (P := Tryd.prog) 36 40 (.int .i64 0) 8 Tryd.underlying36 info56 rfl .i64 .i64 n (by omega) (by omega)
  go_enter Tryd.func23, Tryd.ntmps23
  go_wp2_with fail
  clear hmk
  go_loopw [12] (fun i wr => ∃ k : Nat, k ≤ n ∧ i = .int .i64 k ∧ Seg wr w.heap.size 40 0 n (fun j => if j < k then .int .i64 (Rm.mulM (f j) (g j)) else .int .i64 0) ∧ Below w.heap.size w wr ∧ wr.heap.size = w.heap.size + 1) (fun i _ => n - (intOf i).toNat)
  case atStart => exact ⟨0, Nat.zero_le _, rfl, (seg_made w _ n 40).congr (fun j _ => by simp), (Below.refl _ _).alloc (Nat.le_refl _) _, by simp⟩
  case round =>
    obtain ⟨k, hk, rfl, hs, hb, hz⟩ := hrel
    by_cases hkn : k < n
    · have gf : wr.cell? ⟨bf, of + k, none⟩ = some (.int .i64 (f k)) := (hb.cell (World.block_lt_of_cell? _ _ (cf k hkn))).trans (cf k hkn)
      have gg : wr.cell? ⟨bg, og + k, none⟩ = some (.int .i64 (g k)) := (hb.cell (World.block_lt_of_cell? _ _ (cg k hkn))).trans (cg k hkn)
      have g2 : wr.cell? ⟨w.heap.size, k, none⟩ = some (.int .i64 0) := by simpa using hs.cell hkn
      have g3 : wr.frozen? ⟨w.heap.size, k, none⟩ = false := hs.frozen k
      have HS : Hid (Seg wr w.heap.size 40 0 n (fun j => if j < k then .int .i64 (Rm.mulM (f j) (g j)) else .int .i64 0) ∧ Below w.heap.size w wr ∧ wr.heap.size = w.heap.size + 1) := ⟨hs, hb, hz⟩
      clear hs hb hz cf cg hf hg
      have hnil := nil_times
      have hmeth := mrun_times
      go_wp2
      go_region_with (first | (go_at_call 45; refine (times_any _ _ _).mono ?_; rintro e w1 ⟨rfl, rfl⟩))
      all_goals
      go_wp2
      go_roundw
      case rel =>
        obtain ⟨hs, hb, hz⟩ := HS.out
        refine ⟨k + 1, by omega, by simp, ?_, (hb.setCell (by show w.heap.size ≤ w.heap.size; omega) _).drew, by simpa using hz⟩
        have := hs.set k hkn (.int .i64 (Rm.mulM (f k) (g k)))
        rw [Nat.zero_add] at this
        refine Seg.drew (this.congr fun j hj => ?_)
        by_cases e : j = k
        · subst e; simp
        · by_cases e2 : j < k
          · simp [e, e2, Nat.lt_succ_of_lt e2]
          · simp [e, e2]; intro h; omega
      case measure => simp [intOf]; omega
    · obtain rfl : k = n := by omega
      clear cf cg hf hg
      go_wp2
      go_ret
      exact ⟨rfl, hs.congr fun j hj => by simp [hj], hb, hz⟩
set_option maxHeartbeats 1000000 in
theorem scaled_any {w : World} {vf : Value} {n : Nat} {f : Nat → Int} (hf : RdRow w vf n f) (by0 : Int) (hp : 0 < n) (hn : n ≤ 1000000) :
    Calls Tryd.prog 39 #[vf, .int .i64 by0] w fun e w' => e = .returned (.slice (some ⟨w.heap.size, 0, none⟩) n n) ∧ Seg w' w.heap.size 40 0 n (fun i => .int .i64 (Rm.mulM (f i) by0)) ∧ Below w.heap.size w w' ∧ w'.heap.size = w.heap.size + 1 := by
  obtain ⟨bf, of, capf, rfl, cf⟩ := hf.get hp
  have hmk := run_make_row' (P := Tryd.prog) 36 40 (.int .i64 0) 8 Tryd.underlying36 info56 rfl .i64 .i64 n (by omega) (by omega)
  go_enter Tryd.func39, Tryd.ntmps39
  go_wp2_with fail
  clear hmk
  go_loopw [12] (fun i wr => ∃ k : Nat, k ≤ n ∧ i = .int .i64 k ∧ Seg wr w.heap.size 40 0 n (fun j => if j < k then .int .i64 (Rm.mulM (f j) by0) else .int .i64 0) ∧ Below w.heap.size w wr ∧ wr.heap.size = w.heap.size + 1) (fun i _ => n - (intOf i).toNat)
  case atStart => exact ⟨0, Nat.zero_le _, rfl, (seg_made w _ n 40).congr (fun j _ => by simp), (Below.refl _ _).alloc (Nat.le_refl _) _, by simp⟩
  case round =>
    obtain ⟨k, hk, rfl, hs, hb, hz⟩ := hrel
    by_cases hkn : k < n
    · have gf : wr.cell? ⟨bf, of + k, none⟩ = some (.int .i64 (f k)) := (hb.cell (World.block_lt_of_cell? _ _ (cf k hkn))).trans (cf k hkn)
      have g2 : wr.cell? ⟨w.heap.size, k, none⟩ = some (.int .i64 0) := by simpa using hs.cell hkn
      have g3 : wr.frozen? ⟨w.heap.size, k, none⟩ = false := hs.frozen k
      have HS : Hid (Seg wr w.heap.size 40 0 n (fun j => if j < k then .int .i64 (Rm.mulM (f j) by0) else .int .i64 0) ∧ Below w.heap.size w wr ∧ wr.heap.size = w.heap.size + 1) := ⟨hs, hb, hz⟩
      clear hs hb hz cf hf
      have hnil := nil_times
      have hmeth := mrun_times
      go_wp2_with fail
      refine (times_any _ _ _).mono ?_
      rintro e w1 ⟨rfl, rfl⟩
      go_wp2
      go_roundw
      case rel =>
        obtain ⟨hs, hb, hz⟩ := HS.out
        refine ⟨k + 1, by omega, by simp, ?_, (hb.setCell (by show w.heap.size ≤ w.heap.size; omega) _), by simpa using hz⟩
        have := hs.set k hkn (.int .i64 (Rm.mulM (f k) by0))
        rw [Nat.zero_add] at this
        refine this.congr fun j hj => ?_
        by_cases e : j = k
        · subst e; simp
        · by_cases e2 : j < k
          · simp [e, e2, Nat.lt_succ_of_lt e2]
          · simp [e, e2]; intro h; omega
      case measure => simp [intOf]; omega
    · obtain rfl : k = n := by omega
      clear cf hf
      go_wp2
      go_ret
      exact ⟨rfl, hs.congr fun j hj => by simp [hj], hb, hz⟩
end Go.Proofs.YtpkbpikdffbadaaDoor
