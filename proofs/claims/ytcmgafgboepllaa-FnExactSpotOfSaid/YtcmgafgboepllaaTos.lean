/- The laws' own copies of slices of floats: a contract. -/
import Derived.Test.YtcmgafgboepllaaMem
namespace Go.Proofs.Ytcmgafgboepllaa
open Go.RowKit Fl
theorem info24 : (Try.prog.info? 24).map (fun i => (i.zero, i.size, i.bytes)) = some (some (.float .f64 0), 1, 8) := by kernel_rfl

set_option maxHeartbeats 800000 in
theorem toS_some (b off n cap : Nat) (f : Nat → Nat) (w : World) (hn : n ≤ 1000000000000) (hc : ∀ i, i < n → w.cell? ⟨b, off + i, none⟩ = some (.float .f64 (f i))) :
    Calls Try.prog 19 #[.slice (some ⟨b, off, none⟩) n cap] w fun e w' => e = .returned (.slice (some ⟨w.heap.size, 0, none⟩) n n) ∧
      Seg w' w.heap.size 24 0 n (fun i => .float .f64 (f i)) ∧ Below w.heap.size w w' ∧ w'.heap.size = w.heap.size + 1 := by
  have hmk := run_make_row' (P := Try.prog) 34 24 (.float .f64 0) 8 Try.underlying34 info24 rfl .i64 .i64 n (by omega) (by omega)
  go_enter Try.func19, Try.ntmps19
  go_wp2_with fail
  clear hmk
  go_loopw [4] (fun i wr => ∃ k : Nat, k ≤ n ∧ i = .int .i64 k ∧ Seg wr w.heap.size 24 0 n (fun j => if j < k then .float .f64 (f j) else .float .f64 0) ∧ Below w.heap.size w wr ∧ wr.heap.size = w.heap.size + 1) (fun i _ => n - (intOf i).toNat)
  case atStart => exact ⟨0, Nat.zero_le _, rfl, (seg_made w _ n 24).congr (fun j _ => by simp), (Below.refl _ _).alloc (Nat.le_refl _) _, by simp⟩
  case round =>
    obtain ⟨k, hk, rfl, hs, hb, hz⟩ := hrel
    by_cases hkn : k < n
    · have g1 : wr.cell? ⟨b, off + k, none⟩ = some (.float .f64 (f k)) := (hb.cell (World.block_lt_of_cell? _ _ (hc k hkn))).trans (hc k hkn)
      have g2 : wr.cell? ⟨w.heap.size, k, none⟩ = some (.float .f64 0) := by simpa using hs.cell hkn
      have g3 : wr.frozen? ⟨w.heap.size, k, none⟩ = false := hs.frozen k
      have HS : Hid (Seg wr w.heap.size 24 0 n (fun j => if j < k then .float .f64 (f j) else .float .f64 0) ∧ Below w.heap.size w wr ∧ wr.heap.size = w.heap.size + 1) := ⟨hs, hb, hz⟩
      clear hs hb hz hc
      have hst := st64
      go_wp2
      go_roundw
      case rel =>
        obtain ⟨hs, hb, hz⟩ := HS.out
        refine ⟨k + 1, by omega, by simp, ?_, hb.setCell (Nat.le_refl _) _, by simpa using hz⟩
        have := hs.set k hkn (.float .f64 (f k))
        rw [Nat.zero_add] at this
        refine this.congr fun j hj => ?_
        by_cases e : j = k
        · subst e; simp
        · by_cases e2 : j < k
          · simp [e, e2, Nat.lt_succ_of_lt e2]
          · simp [e, e2]; intro h; omega
      case measure => simp [intOf]; omega
    · obtain rfl : k = n := by omega
      clear hc
      go_wp2
      go_ret
      exact ⟨rfl, hs.congr fun j hj => by simp [hj], hb, hz⟩
theorem toS_none (ao : Option Addr) (cap : Nat) (f : Nat → Nat) (w : World) :
    Calls Try.prog 19 #[.slice ao 0 cap] w fun e w' => e = .returned (.slice (some ⟨w.heap.size, 0, none⟩) 0 0) ∧
      Seg w' w.heap.size 24 0 0 (fun i => .float .f64 (f i)) ∧ Below w.heap.size w w' ∧ w'.heap.size = w.heap.size + 1 := by
  have hmk := run_make_row' (P := Try.prog) 34 24 (.float .f64 0) 8 Try.underlying34 info24 rfl .i64 .i64 0 (by omega) (by omega)
  rw [show ((0 : Nat) : Int) = 0 from rfl] at hmk
  have hS := seg_made w (.float .f64 0) 0 24
  have hB : Below w.heap.size w (w.alloc (.cells (madeCells #[.float .f64 0] 0) 24)) := (Below.refl _ _).alloc (Nat.le_refl _) _
  go_enter Try.func19, Try.ntmps19
  go_wp2_with fail
  refine wp_loop_rounds 1 ?_
  rw [rounds_succ]
  go_wp2
  go_ret
  exact ⟨rfl, hS.congr fun j hj => absurd hj (Nat.not_lt_zero _), hB, by simp⟩
theorem toS_any {w : World} {v : Value} {n : Nat} {f : Nat → Nat} (h : RdF w v n f) (hn : n ≤ 1000000000000) :
    Calls Try.prog 19 #[v] w fun e w' => e = .returned (.slice (some ⟨w.heap.size, 0, none⟩) n n) ∧
      Seg w' w.heap.size 24 0 n (fun i => .float .f64 (f i)) ∧ Below w.heap.size w w' ∧ w'.heap.size = w.heap.size + 1 := by
  rcases h with ⟨ao, cap, rfl, rfl⟩ | ⟨b, off, cap, rfl, hc⟩
  · exact toS_none ao cap f w
  · exact toS_some b off n cap f w hn hc

end Go.Proofs.Ytcmgafgboepllaa
