/- Lists of bytes and of numbers: the laws' own copies, comparisons and marks. -/
import Derived.Test.YtdknclkecbdpgaaDoorGb
namespace Go.Proofs.YtdknclkecbdpgaaDoor
open Go.RowKit
set_option linter.unusedVariables false
set_option linter.unusedSimpArgs false
theorem info5 : (Tryd.prog.info? 5).map (fun i => (i.zero, i.size, i.bytes)) = some (some (.int .u8 0), 1, 1) := by kernel_rfl
set_option maxHeartbeats 800000 in
theorem toB_some (b off n cap : Nat) (f : Nat → Int) (w : World) (hn : n ≤ 1000000000000) (hc : ∀ i, i < n → w.cell? ⟨b, off + i, none⟩ = some (.int .u8 (f i))) :
    Calls Tryd.prog 26 #[.slice (some ⟨b, off, none⟩) n cap] w fun e w' => e = .returned (.slice (some ⟨w.heap.size, 0, none⟩) n n) ∧
      Seg w' w.heap.size 5 0 n (fun i => .int .u8 (f i)) ∧ Below w.heap.size w w' ∧ w'.heap.size = w.heap.size + 1 := by
  have hmk := run_make_row' (P := Tryd.prog) 22 5 (.int .u8 0) 1 Tryd.underlying22 info5 rfl .i64 .i64 n (by omega) (by omega)
  go_enter Tryd.func26, Tryd.ntmps26
  go_wp2_with fail
  clear hmk
  go_loopw [4] (fun i wr => ∃ k : Nat, k ≤ n ∧ i = .int .i64 k ∧ Seg wr w.heap.size 5 0 n (fun j => if j < k then .int .u8 (f j) else .int .u8 0) ∧ Below w.heap.size w wr ∧ wr.heap.size = w.heap.size + 1) (fun i _ => n - (intOf i).toNat)
  case atStart => exact ⟨0, Nat.zero_le _, rfl, (seg_made w _ n 5).congr (fun j _ => by simp), (Below.refl _ _).alloc (Nat.le_refl _) _, by simp⟩
  case round =>
    obtain ⟨k, hk, rfl, hs, hb, hz⟩ := hrel
    by_cases hkn : k < n
    · have g1 : wr.cell? ⟨b, off + k, none⟩ = some (.int .u8 (f k)) := (hb.cell (World.block_lt_of_cell? _ _ (hc k hkn))).trans (hc k hkn)
      have g2 : wr.cell? ⟨w.heap.size, k, none⟩ = some (.int .u8 0) := by simpa using hs.cell hkn
      have g3 : wr.frozen? ⟨w.heap.size, k, none⟩ = false := hs.frozen k
      have HS : Hid (Seg wr w.heap.size 5 0 n (fun j => if j < k then .int .u8 (f j) else .int .u8 0) ∧ Below w.heap.size w wr ∧ wr.heap.size = w.heap.size + 1) := ⟨hs, hb, hz⟩
      clear hs hb hz hc
      go_wp2
      go_roundw
      case rel =>
        obtain ⟨hs, hb, hz⟩ := HS.out
        refine ⟨k + 1, by omega, by simp, ?_, hb.setCell (Nat.le_refl _) _, by simpa using hz⟩
        have := hs.set k hkn (.int .u8 (f k))
        rw [Nat.zero_add] at this
        refine this.congr fun j hj => ?_
        by_cases e : j = k
        · subst e; simp
        · by_cases e2 : j < k
          · simp [e, e2, Nat.lt_succ_of_lt e2]
          · simp [e, e2]; intro h; omega
      case measure => simp [intOf]; omega
    · obtain rfl : k = n := by omega
      clear hc
      go_wp2
      go_ret
      exact ⟨rfl, hs.congr fun j hj => by simp [hj], hb, hz⟩
theorem toB_none (ao : Option Addr) (cap : Nat) (f : Nat → Int) (w : World) :
    Calls Tryd.prog 26 #[.slice ao 0 cap] w fun e w' => e = .returned (.slice (some ⟨w.heap.size, 0, none⟩) 0 0) ∧
      Seg w' w.heap.size 5 0 0 (fun i => .int .u8 (f i)) ∧ Below w.heap.size w w' ∧ w'.heap.size = w.heap.size + 1 := by
  have hmk := run_make_row' (P := Tryd.prog) 22 5 (.int .u8 0) 1 Tryd.underlying22 info5 rfl .i64 .i64 0 (by omega) (by omega)
  rw [show ((0 : Nat) : Int) = 0 from rfl] at hmk
  have hS := seg_made w (.int .u8 0) 0 5
  have hB : Below w.heap.size w (w.alloc (.cells (madeCells #[.int .u8 0] 0) 5)) := (Below.refl _ _).alloc (Nat.le_refl _) _
  go_enter Tryd.func26, Tryd.ntmps26
  go_wp2_with fail
  refine wp_loop_rounds 1 ?_
  rw [rounds_succ]
  go_wp2
  go_ret
  exact ⟨rfl, hS.congr fun j hj => absurd hj (Nat.not_lt_zero _), hB, by simp⟩
theorem toB_any {w : World} {v : Value} {n : Nat} {f : Nat → Int} (h : RdG w v n (fun i => .int .u8 (f i))) (hn : n ≤ 1000000000000) :
    Calls Tryd.prog 26 #[v] w fun e w' => e = .returned (.slice (some ⟨w.heap.size, 0, none⟩) n n) ∧
      Seg w' w.heap.size 5 0 n (fun i => .int .u8 (f i)) ∧ Below w.heap.size w w' ∧ w'.heap.size = w.heap.size + 1 := by
  rcases h with ⟨ao, cap, rfl, rfl⟩ | ⟨b, off, cap, rfl, hc⟩
  · exact toB_none ao cap f w
  · exact toB_some b off n cap f w hn hc
set_option maxHeartbeats 800000 in
theorem eqB_some (b off cap b' off' cap' n : Nat) (f : Nat → Int) (w : World) (hn : n ≤ 1000000000000)
    (hc : ∀ i, i < n → w.cell? ⟨b, off + i, none⟩ = some (.int .u8 (f i))) (hc' : ∀ i, i < n → w.cell? ⟨b', off' + i, none⟩ = some (.int .u8 (f i))) :
    Calls Tryd.prog 28 #[.slice (some ⟨b, off, none⟩) n cap, .slice (some ⟨b', off', none⟩) n cap'] w fun e w' => e = .returned (.bool true) ∧ ∃ q, w' = w.drewN q := by
  go_enter Tryd.func28, Tryd.ntmps28
  go_wp2_with fail
  go_loopw [5] (fun i wr => ∃ k q : Nat, k ≤ n ∧ i = .int .i64 k ∧ wr = w.drewN q) (fun i _ => n - (intOf i).toNat)
  case atStart => exact ⟨0, 0, Nat.zero_le _, rfl, rfl⟩
  case round =>
    obtain ⟨k, q, hk, rfl, rfl⟩ := hrel
    by_cases hkn : k < n
    · have g1 := hc k hkn
      have g2 := hc' k hkn
      clear hc hc'
      go_wp2
      go_quiet (fail)
      go_wp2
      go_roundw
      case rel => exact ⟨k + 1, q + nq, by omega, by simp, by first | rfl | rw [World.drewN_drewN]⟩
      case measure => simp [intOf]; omega
    · obtain rfl : k = n := by omega
      clear hc hc'
      go_wp2
      go_ret
      exact ⟨rfl, q, rfl⟩
theorem eqB_none (ao ao' : Option Addr) (cap cap' : Nat) (w : World) :
    Calls Tryd.prog 28 #[.slice ao 0 cap, .slice ao' 0 cap'] w fun e w' => e = .returned (.bool true) ∧ ∃ q, w' = w.drewN q := by
  go_enter Tryd.func28, Tryd.ntmps28
  go_wp2_with fail
  refine wp_loop_rounds 1 ?_
  rw [rounds_succ]
  go_wp2
  go_ret
  exact ⟨rfl, 0, rfl⟩
theorem eqB_any {w : World} {v v' : Value} {n : Nat} {f : Nat → Int} (h : RdG w v n (fun i => .int .u8 (f i))) (h' : RdG w v' n (fun i => .int .u8 (f i))) (hn : n ≤ 1000000000000) :
    Calls Tryd.prog 28 #[v, v'] w fun e w' => e = .returned (.bool true) ∧ ∃ q, w' = w.drewN q := by
  rcases h with ⟨ao, cap, rfl, rfl⟩ | ⟨b, off, cap, rfl, hc⟩
  · rcases h' with ⟨ao', cap', rfl, _⟩ | ⟨b', off', cap', rfl, hc'⟩
    · exact eqB_none _ _ _ _ w
    · exact eqB_none _ _ _ _ w
  · rcases h' with ⟨ao', cap', rfl, rfl⟩ | ⟨b', off', cap', rfl, hc'⟩
    · exact eqB_none _ _ _ _ w
    · exact eqB_some b off cap b' off' cap' n f w hn hc hc'
set_option maxHeartbeats 800000 in
theorem markB_some (b off n cap : Nat) (f : Nat → Int) (k0 : Int) (w : World) (h0 : 0 ≤ k0) (h1 : k0 + n ≤ 1000000000000) (hs0 : Seg w b 5 off n (fun i => .int .u8 (f i))) :
    Calls Tryd.prog 41 #[.slice (some ⟨b, off, none⟩) n cap, .int .i64 k0] w fun e w' => e = .returned (.int .i64 (k0 + n)) ∧
      Seg w' b 5 off n (fun i => .int .u8 ((k0 + i) % 256)) ∧ Within b (b + 1) w w' ∧ w'.heap.size = w.heap.size := by
  go_enter Tryd.func41, Tryd.ntmps41
  go_wp2_with fail
  go_loopw [1, 5] (fun q i wr => ∃ k : Nat, k ≤ n ∧ i = .int .i64 k ∧ q = .int .i64 (k0 + k) ∧ Seg wr b 5 off n (fun j => if j < k then .int .u8 ((k0 + j) % 256) else .int .u8 (f j)) ∧ Within b (b + 1) w wr ∧ wr.heap.size = w.heap.size) (fun _ i _ => n - (intOf i).toNat)
  case atStart => exact ⟨0, Nat.zero_le _, rfl, by simp, hs0.congr (fun j _ => by simp), Within.refl _ _ _, rfl⟩
  case round =>
    obtain ⟨k, hk, rfl, rfl, hs, hb, hz⟩ := hrel
    clear hs0
    by_cases hkn : k < n
    · have g2 : wr.cell? ⟨b, off + k, none⟩ = some (.int .u8 (f k)) := by simpa using hs.cell hkn
      have g3 : wr.frozen? ⟨b, off + k, none⟩ = false := hs.frozen (off + k)
      have HS : Hid (Seg wr b 5 off n (fun j => if j < k then .int .u8 ((k0 + j) % 256) else .int .u8 (f j)) ∧ Within b (b + 1) w wr ∧ wr.heap.size = w.heap.size) := ⟨hs, hb, hz⟩
      clear hs hb hz
      go_wp2
      go_roundw
      case rel =>
        obtain ⟨hs, hb, hz⟩ := HS.out
        refine ⟨k + 1, by omega, by simp, by simp; omega, ?_, hb.setCell (Nat.le_refl _) (Nat.lt_succ_self _) _, by simpa using hz⟩
        refine (hs.set k hkn (.int .u8 ((k0 + k) % 256))).congr fun j hj => ?_
        by_cases e : j = k
        · subst e; simp
        · by_cases e2 : j < k
          · simp [e, e2, Nat.lt_succ_of_lt e2]
          · simp [e, e2]; intro h; omega
      case measure => simp [intOf]; omega
    · obtain rfl : k = n := by omega
      go_wp2
      go_ret
      exact ⟨rfl, hs.congr fun j hj => by simp [hj], hb, hz⟩
theorem markB_none (ao : Option Addr) (cap : Nat) (k0 : Int) (w : World) : Calls Tryd.prog 41 #[.slice ao 0 cap, .int .i64 k0] w fun e w' => e = .returned (.int .i64 k0) ∧ w = w' := by
  go_enter Tryd.func41, Tryd.ntmps41
  go_wp2_with fail
  refine wp_loop_rounds 1 ?_
  rw [rounds_succ]
  go_wp2
  go_ret
  exact ⟨rfl, rfl⟩
set_option maxHeartbeats 800000 in
theorem heldB_some (b off n cap : Nat) (k0 : Int) (w : World) (h0 : 0 ≤ k0) (h1 : k0 + n ≤ 1000000000000) (hc : ∀ i : Nat, i < n → w.cell? ⟨b, off + i, none⟩ = some (.int .u8 ((k0 + i) % 256))) :
    Calls Tryd.prog 95 #[.slice (some ⟨b, off, none⟩) n cap, .int .i64 k0] w fun e w' => e = .returned (.int .i64 (k0 + n)) ∧ w = w' := by
  go_enter Tryd.func95, Tryd.ntmps95
  go_wp2_with fail
  go_loopw [1, 5] (fun q i wr => wr = w ∧ ∃ k : Nat, k ≤ n ∧ i = .int .i64 k ∧ q = .int .i64 (k0 + k)) (fun _ i _ => n - (intOf i).toNat)
  case atStart => exact ⟨rfl, 0, Nat.zero_le _, rfl, by simp⟩
  case round =>
    obtain ⟨rfl, k, hk, rfl, rfl⟩ := hrel
    by_cases hkn : k < n
    · have g := hc k hkn
      clear hc
      go_wp2
      go_roundw
      case rel => exact ⟨by trivial, k + 1, by omega, by simp, by simp; omega⟩
      case measure => simp [intOf]; omega
    · obtain rfl : k = n := by omega
      clear hc
      go_wp2
      go_ret
      exact ⟨rfl, rfl⟩
theorem heldB_none (ao : Option Addr) (cap : Nat) (k0 : Int) (w : World) : Calls Tryd.prog 95 #[.slice ao 0 cap, .int .i64 k0] w fun e w' => e = .returned (.int .i64 k0) ∧ w = w' := by
  go_enter Tryd.func95, Tryd.ntmps95
  go_wp2_with fail
  refine wp_loop_rounds 1 ?_
  rw [rounds_succ]
  go_wp2
  go_ret
  exact ⟨rfl, rfl⟩
theorem markB_own {lo hi : Nat} {w : World} {v : Value} {n : Nat} {f : Nat → Int} (h : OwS 5 lo hi w v n (fun i => .int .u8 (f i))) (k0 : Int) (h0 : 0 ≤ k0) (h1 : k0 + n ≤ 1000000000000) :
    Calls Tryd.prog 41 #[v, .int .i64 k0] w fun e w' => e = .returned (.int .i64 (k0 + n)) ∧ OwS 5 lo hi w' v n (fun i => .int .u8 ((k0 + i) % 256)) ∧ Within lo hi w w' ∧ w'.heap.size = w.heap.size := by
  rcases h with ⟨rfl, rfl⟩ | ⟨g, cap, rfl, h2, h3, h4⟩
  · refine (markB_none none 0 k0 w).mono ?_
    rintro e w' ⟨rfl, rfl⟩
    exact ⟨by simp, Or.inl ⟨rfl, rfl⟩, Within.refl _ _ _, rfl⟩
  · refine (markB_some g 0 n cap f k0 w h0 h1 h4).mono ?_
    rintro e w' ⟨rfl, a, b, c⟩
    exact ⟨rfl, Or.inr ⟨g, cap, rfl, h2, h3, a⟩, b.mono h2 (by omega), c⟩
theorem heldB_own {lo hi : Nat} {w : World} {v : Value} {n : Nat} {k0 : Int} (h : OwS 5 lo hi w v n (fun i => .int .u8 ((k0 + i) % 256))) (h0 : 0 ≤ k0) (h1 : k0 + n ≤ 1000000000000) :
    Calls Tryd.prog 95 #[v, .int .i64 k0] w fun e w' => e = .returned (.int .i64 (k0 + n)) ∧ w = w' := by
  rcases h with ⟨rfl, rfl⟩ | ⟨g, cap, rfl, h2, h3, h4⟩
  · refine (heldB_none none 0 k0 w).mono ?_
    rintro e w' ⟨rfl, rfl⟩
    exact ⟨by simp, rfl⟩
  · exact heldB_some g 0 n cap k0 w h0 h1 fun i hi => by have := h4.cell hi; simpa using this
theorem info2 : (Tryd.prog.info? 2).map (fun i => (i.zero, i.size, i.bytes)) = some (some (.int .i64 0), 1, 8) := by kernel_rfl
set_option maxHeartbeats 800000 in
theorem toI_some (b off n cap : Nat) (f : Nat → Int) (w : World) (hn : n ≤ 1000000000000) (hc : ∀ i, i < n → w.cell? ⟨b, off + i, none⟩ = some (.int .i64 (f i))) :
    Calls Tryd.prog 58 #[.slice (some ⟨b, off, none⟩) n cap] w fun e w' => e = .returned (.slice (some ⟨w.heap.size, 0, none⟩) n n) ∧
      Seg w' w.heap.size 2 0 n (fun i => .int .i64 (f i)) ∧ Below w.heap.size w w' ∧ w'.heap.size = w.heap.size + 1 := by
  have hmk := run_make_row' (P := Tryd.prog) 24 2 (.int .i64 0) 8 Tryd.underlying24 info2 rfl .i64 .i64 n (by omega) (by omega)
  go_enter Tryd.func58, Tryd.ntmps58
  go_wp2_with fail
  clear hmk
  go_loopw [4] (fun i wr => ∃ k : Nat, k ≤ n ∧ i = .int .i64 k ∧ Seg wr w.heap.size 2 0 n (fun j => if j < k then .int .i64 (f j) else .int .i64 0) ∧ Below w.heap.size w wr ∧ wr.heap.size = w.heap.size + 1) (fun i _ => n - (intOf i).toNat)
  case atStart => exact ⟨0, Nat.zero_le _, rfl, (seg_made w _ n 2).congr (fun j _ => by simp), (Below.refl _ _).alloc (Nat.le_refl _) _, by simp⟩
  case round =>
    obtain ⟨k, hk, rfl, hs, hb, hz⟩ := hrel
    by_cases hkn : k < n
    · have g1 : wr.cell? ⟨b, off + k, none⟩ = some (.int .i64 (f k)) := (hb.cell (World.block_lt_of_cell? _ _ (hc k hkn))).trans (hc k hkn)
      have g2 : wr.cell? ⟨w.heap.size, k, none⟩ = some (.int .i64 0) := by simpa using hs.cell hkn
      have g3 : wr.frozen? ⟨w.heap.size, k, none⟩ = false := hs.frozen k
      have HS : Hid (Seg wr w.heap.size 2 0 n (fun j => if j < k then .int .i64 (f j) else .int .i64 0) ∧ Below w.heap.size w wr ∧ wr.heap.size = w.heap.size + 1) := ⟨hs, hb, hz⟩
      clear hs hb hz hc
      go_wp2
      go_roundw
      case rel =>
        obtain ⟨hs, hb, hz⟩ := HS.out
        refine ⟨k + 1, by omega, by simp, ?_, hb.setCell (Nat.le_refl _) _, by simpa using hz⟩
        have := hs.set k hkn (.int .i64 (f k))
        rw [Nat.zero_add] at this
        refine this.congr fun j hj => ?_
        by_cases e : j = k
        · subst e; simp
        · by_cases e2 : j < k
          · simp [e, e2, Nat.lt_succ_of_lt e2]
          · simp [e, e2]; intro h; omega
      case measure => simp [intOf]; omega
    · obtain rfl : k = n := by omega
      clear hc
      go_wp2
      go_ret
      exact ⟨rfl, hs.congr fun j hj => by simp [hj], hb, hz⟩
theorem toI_none (ao : Option Addr) (cap : Nat) (f : Nat → Int) (w : World) :
    Calls Tryd.prog 58 #[.slice ao 0 cap] w fun e w' => e = .returned (.slice (some ⟨w.heap.size, 0, none⟩) 0 0) ∧
      Seg w' w.heap.size 2 0 0 (fun i => .int .i64 (f i)) ∧ Below w.heap.size w w' ∧ w'.heap.size = w.heap.size + 1 := by
  have hmk := run_make_row' (P := Tryd.prog) 24 2 (.int .i64 0) 8 Tryd.underlying24 info2 rfl .i64 .i64 0 (by omega) (by omega)
  rw [show ((0 : Nat) : Int) = 0 from rfl] at hmk
  have hS := seg_made w (.int .i64 0) 0 2
  have hB : Below w.heap.size w (w.alloc (.cells (madeCells #[.int .i64 0] 0) 2)) := (Below.refl _ _).alloc (Nat.le_refl _) _
  go_enter Tryd.func58, Tryd.ntmps58
  go_wp2_with fail
  refine wp_loop_rounds 1 ?_
  rw [rounds_succ]
  go_wp2
  go_ret
  exact ⟨rfl, hS.congr fun j hj => absurd hj (Nat.not_lt_zero _), hB, by simp⟩
theorem toI_any {w : World} {v : Value} {n : Nat} {f : Nat → Int} (h : RdG w v n (fun i => .int .i64 (f i))) (hn : n ≤ 1000000000000) :
    Calls Tryd.prog 58 #[v] w fun e w' => e = .returned (.slice (some ⟨w.heap.size, 0, none⟩) n n) ∧
      Seg w' w.heap.size 2 0 n (fun i => .int .i64 (f i)) ∧ Below w.heap.size w w' ∧ w'.heap.size = w.heap.size + 1 := by
  rcases h with ⟨ao, cap, rfl, rfl⟩ | ⟨b, off, cap, rfl, hc⟩
  · exact toI_none ao cap f w
  · exact toI_some b off n cap f w hn hc
set_option maxHeartbeats 800000 in
theorem eqI_some (b off cap b' off' cap' n : Nat) (f : Nat → Int) (w : World) (hn : n ≤ 1000000000000)
    (hc : ∀ i, i < n → w.cell? ⟨b, off + i, none⟩ = some (.int .i64 (f i))) (hc' : ∀ i, i < n → w.cell? ⟨b', off' + i, none⟩ = some (.int .i64 (f i))) :
    Calls Tryd.prog 61 #[.slice (some ⟨b, off, none⟩) n cap, .slice (some ⟨b', off', none⟩) n cap'] w fun e w' => e = .returned (.bool true) ∧ ∃ q, w' = w.drewN q := by
  go_enter Tryd.func61, Tryd.ntmps61
  go_wp2_with fail
  go_loopw [5] (fun i wr => ∃ k q : Nat, k ≤ n ∧ i = .int .i64 k ∧ wr = w.drewN q) (fun i _ => n - (intOf i).toNat)
  case atStart => exact ⟨0, 0, Nat.zero_le _, rfl, rfl⟩
  case round =>
    obtain ⟨k, q, hk, rfl, rfl⟩ := hrel
    by_cases hkn : k < n
    · have g1 := hc k hkn
      have g2 := hc' k hkn
      clear hc hc'
      go_wp2
      go_quiet (fail)
      go_wp2
      go_roundw
      case rel => exact ⟨k + 1, q + nq, by omega, by simp, by first | rfl | rw [World.drewN_drewN]⟩
      case measure => simp [intOf]; omega
    · obtain rfl : k = n := by omega
      clear hc hc'
      go_wp2
      go_ret
      exact ⟨rfl, q, rfl⟩
theorem eqI_none (ao ao' : Option Addr) (cap cap' : Nat) (w : World) :
    Calls Tryd.prog 61 #[.slice ao 0 cap, .slice ao' 0 cap'] w fun e w' => e = .returned (.bool true) ∧ ∃ q, w' = w.drewN q := by
  go_enter Tryd.func61, Tryd.ntmps61
  go_wp2_with fail
  refine wp_loop_rounds 1 ?_
  rw [rounds_succ]
  go_wp2
  go_ret
  exact ⟨rfl, 0, rfl⟩
theorem eqI_any {w : World} {v v' : Value} {n : Nat} {f : Nat → Int} (h : RdG w v n (fun i => .int .i64 (f i))) (h' : RdG w v' n (fun i => .int .i64 (f i))) (hn : n ≤ 1000000000000) :
    Calls Tryd.prog 61 #[v, v'] w fun e w' => e = .returned (.bool true) ∧ ∃ q, w' = w.drewN q := by
  rcases h with ⟨ao, cap, rfl, rfl⟩ | ⟨b, off, cap, rfl, hc⟩
  · rcases h' with ⟨ao', cap', rfl, _⟩ | ⟨b', off', cap', rfl, hc'⟩
    · exact eqI_none _ _ _ _ w
    · exact eqI_none _ _ _ _ w
  · rcases h' with ⟨ao', cap', rfl, rfl⟩ | ⟨b', off', cap', rfl, hc'⟩
    · exact eqI_none _ _ _ _ w
    · exact eqI_some b off cap b' off' cap' n f w hn hc hc'
set_option maxHeartbeats 800000 in
theorem markI_some (b off n cap : Nat) (f : Nat → Int) (k0 : Int) (w : World) (h0 : 0 ≤ k0) (h1 : k0 + n ≤ 1000000000000) (hs0 : Seg w b 2 off n (fun i => .int .i64 (f i))) :
    Calls Tryd.prog 62 #[.slice (some ⟨b, off, none⟩) n cap, .int .i64 k0] w fun e w' => e = .returned (.int .i64 (k0 + n)) ∧
      Seg w' b 2 off n (fun i => .int .i64 (k0 + i)) ∧ Within b (b + 1) w w' ∧ w'.heap.size = w.heap.size := by
  go_enter Tryd.func62, Tryd.ntmps62
  go_wp2_with fail
  go_loopw [1, 5] (fun q i wr => ∃ k : Nat, k ≤ n ∧ i = .int .i64 k ∧ q = .int .i64 (k0 + k) ∧ Seg wr b 2 off n (fun j => if j < k then .int .i64 (k0 + j) else .int .i64 (f j)) ∧ Within b (b + 1) w wr ∧ wr.heap.size = w.heap.size) (fun _ i _ => n - (intOf i).toNat)
  case atStart => exact ⟨0, Nat.zero_le _, rfl, by simp, hs0.congr (fun j _ => by simp), Within.refl _ _ _, rfl⟩
  case round =>
    obtain ⟨k, hk, rfl, rfl, hs, hb, hz⟩ := hrel
    clear hs0
    by_cases hkn : k < n
    · have g2 : wr.cell? ⟨b, off + k, none⟩ = some (.int .i64 (f k)) := by simpa using hs.cell hkn
      have g3 : wr.frozen? ⟨b, off + k, none⟩ = false := hs.frozen (off + k)
      have HS : Hid (Seg wr b 2 off n (fun j => if j < k then .int .i64 (k0 + j) else .int .i64 (f j)) ∧ Within b (b + 1) w wr ∧ wr.heap.size = w.heap.size) := ⟨hs, hb, hz⟩
      clear hs hb hz
      go_wp2
      go_roundw
      case rel =>
        obtain ⟨hs, hb, hz⟩ := HS.out
        refine ⟨k + 1, by omega, by simp, by simp; omega, ?_, hb.setCell (Nat.le_refl _) (Nat.lt_succ_self _) _, by simpa using hz⟩
        refine (hs.set k hkn (.int .i64 (k0 + k))).congr fun j hj => ?_
        by_cases e : j = k
        · subst e; simp
        · by_cases e2 : j < k
          · simp [e, e2, Nat.lt_succ_of_lt e2]
          · simp [e, e2]; intro h; omega
      case measure => simp [intOf]; omega
    · obtain rfl : k = n := by omega
      go_wp2
      go_ret
      exact ⟨rfl, hs.congr fun j hj => by simp [hj], hb, hz⟩
theorem markI_none (ao : Option Addr) (cap : Nat) (k0 : Int) (w : World) : Calls Tryd.prog 62 #[.slice ao 0 cap, .int .i64 k0] w fun e w' => e = .returned (.int .i64 k0) ∧ w = w' := by
  go_enter Tryd.func62, Tryd.ntmps62
  go_wp2_with fail
  refine wp_loop_rounds 1 ?_
  rw [rounds_succ]
  go_wp2
  go_ret
  exact ⟨rfl, rfl⟩
set_option maxHeartbeats 800000 in
theorem heldI_some (b off n cap : Nat) (k0 : Int) (w : World) (h0 : 0 ≤ k0) (h1 : k0 + n ≤ 1000000000000) (hc : ∀ i : Nat, i < n → w.cell? ⟨b, off + i, none⟩ = some (.int .i64 (k0 + i))) :
    Calls Tryd.prog 112 #[.slice (some ⟨b, off, none⟩) n cap, .int .i64 k0] w fun e w' => e = .returned (.int .i64 (k0 + n)) ∧ w = w' := by
  go_enter Tryd.func112, Tryd.ntmps112
  go_wp2_with fail
  go_loopw [1, 5] (fun q i wr => wr = w ∧ ∃ k : Nat, k ≤ n ∧ i = .int .i64 k ∧ q = .int .i64 (k0 + k)) (fun _ i _ => n - (intOf i).toNat)
  case atStart => exact ⟨rfl, 0, Nat.zero_le _, rfl, by simp⟩
  case round =>
    obtain ⟨rfl, k, hk, rfl, rfl⟩ := hrel
    by_cases hkn : k < n
    · have g := hc k hkn
      clear hc
      go_wp2
      go_roundw
      case rel => exact ⟨by trivial, k + 1, by omega, by simp, by simp; omega⟩
      case measure => simp [intOf]; omega
    · obtain rfl : k = n := by omega
      clear hc
      go_wp2
      go_ret
      exact ⟨rfl, rfl⟩
theorem heldI_none (ao : Option Addr) (cap : Nat) (k0 : Int) (w : World) : Calls Tryd.prog 112 #[.slice ao 0 cap, .int .i64 k0] w fun e w' => e = .returned (.int .i64 k0) ∧ w = w' := by
  go_enter Tryd.func112, Tryd.ntmps112
  go_wp2_with fail
  refine wp_loop_rounds 1 ?_
  rw [rounds_succ]
  go_wp2
  go_ret
  exact ⟨rfl, rfl⟩
theorem markI_own {lo hi : Nat} {w : World} {v : Value} {n : Nat} {f : Nat → Int} (h : OwS 2 lo hi w v n (fun i => .int .i64 (f i))) (k0 : Int) (h0 : 0 ≤ k0) (h1 : k0 + n ≤ 1000000000000) :
    Calls Tryd.prog 62 #[v, .int .i64 k0] w fun e w' => e = .returned (.int .i64 (k0 + n)) ∧ OwS 2 lo hi w' v n (fun i => .int .i64 (k0 + i)) ∧ Within lo hi w w' ∧ w'.heap.size = w.heap.size := by
  rcases h with ⟨rfl, rfl⟩ | ⟨g, cap, rfl, h2, h3, h4⟩
  · refine (markI_none none 0 k0 w).mono ?_
    rintro e w' ⟨rfl, rfl⟩
    exact ⟨by simp, Or.inl ⟨rfl, rfl⟩, Within.refl _ _ _, rfl⟩
  · refine (markI_some g 0 n cap f k0 w h0 h1 h4).mono ?_
    rintro e w' ⟨rfl, a, b, c⟩
    exact ⟨rfl, Or.inr ⟨g, cap, rfl, h2, h3, a⟩, b.mono h2 (by omega), c⟩
theorem heldI_own {lo hi : Nat} {w : World} {v : Value} {n : Nat} {k0 : Int} (h : OwS 2 lo hi w v n (fun i => .int .i64 (k0 + i))) (h0 : 0 ≤ k0) (h1 : k0 + n ≤ 1000000000000) :
    Calls Tryd.prog 112 #[v, .int .i64 k0] w fun e w' => e = .returned (.int .i64 (k0 + n)) ∧ w = w' := by
  rcases h with ⟨rfl, rfl⟩ | ⟨g, cap, rfl, h2, h3, h4⟩
  · refine (heldI_none none 0 k0 w).mono ?_
    rintro e w' ⟨rfl, rfl⟩
    exact ⟨by simp, rfl⟩
  · exact heldI_some g 0 n cap k0 w h0 h1 fun i hi => by have := h4.cell hi; simpa using this
end Go.Proofs.YtdknclkecbdpgaaDoor
