/- The laws' own marks: numbers from k on are written into a list or a matrix that owns its blocks, and are found there again: contracts. -/
import Derived.Test.YtclnmikneomccaaToss
namespace Go.Proofs.Ytclnmikneomccaa
open Go.RowKit
set_option maxHeartbeats 800000 in
theorem markS_some (b off n cap : Nat) (f : Nat → Int) (k0 : Int) (w : World) (h0 : 0 ≤ k0) (h1 : k0 + n ≤ 1000000000000) (hs0 : Seg w b 2 off n (fun i => .int .i64 (f i))) :
    Calls Try.prog 57 #[.slice (some ⟨b, off, none⟩) n cap, .int .i64 k0] w fun e w' => e = .returned (.int .i64 (k0 + n)) ∧
      Seg w' b 2 off n (fun i => .int .i64 (k0 + i)) ∧ Within b (b + 1) w w' ∧ w'.heap.size = w.heap.size := by
  go_enter Try.func57, Try.ntmps57
  go_wp2_with fail
  go_loopw [1, 5] (fun q i wr => ∃ k : Nat, k ≤ n ∧ i = .int .i64 k ∧ q = .int .i64 (k0 + k) ∧ Seg wr b 2 off n (fun j => if j < k then .int .i64 (k0 + j) else .int .i64 (f j)) ∧ Within b (b + 1) w wr ∧ wr.heap.size = w.heap.size) (fun _ i _ => n - (intOf i).toNat)
  case atStart => exact ⟨0, Nat.zero_le _, rfl, by simp, hs0.congr (fun j _ => by simp), Within.refl _ _ _, rfl⟩
  case round =>
    obtain ⟨k, hk, rfl, rfl, hs, hb, hz⟩ := hrel
    clear hs0
    by_cases hkn : k < n
    · have g2 : wr.cell? ⟨b, off + k, none⟩ = some (.int .i64 (f k)) := by simpa using hs.cell hkn
      have g3 : wr.frozen? ⟨b, off + k, none⟩ = false := hs.frozen (off + k)
      have HS : Hid (Seg wr b 2 off n (fun j => if j < k then .int .i64 (k0 + j) else .int .i64 (f j)) ∧ Within b (b + 1) w wr ∧ wr.heap.size = w.heap.size) := ⟨hs, hb, hz⟩
      clear hs hb hz
      go_wp2
      go_roundw
      case rel =>
        obtain ⟨hs, hb, hz⟩ := HS.out
        refine ⟨k + 1, by omega, by simp, by simp; omega, ?_, hb.setCell (Nat.le_refl _) (Nat.lt_succ_self _) _, by simpa using hz⟩
        refine (hs.set k hkn (.int .i64 (k0 + k))).congr fun j hj => ?_
        by_cases e : j = k
        · subst e; simp
        · by_cases e2 : j < k
          · simp [e, e2, Nat.lt_succ_of_lt e2]
          · simp [e, e2]; intro h; omega
      case measure => simp [intOf]; omega
    · obtain rfl : k = n := by omega
      go_wp2
      go_ret
      exact ⟨rfl, hs.congr fun j hj => by simp [hj], hb, hz⟩
theorem markS_none (ao : Option Addr) (cap : Nat) (k0 : Int) (w : World) : Calls Try.prog 57 #[.slice ao 0 cap, .int .i64 k0] w fun e w' => e = .returned (.int .i64 k0) ∧ w = w' := by
  go_enter Try.func57, Try.ntmps57
  go_wp2_with fail
  refine wp_loop_rounds 1 ?_
  rw [rounds_succ]
  go_wp2
  go_ret
  exact ⟨rfl, rfl⟩
/-- One row of a matrix is written anew, and nothing else. -/
theorem Mat.anew {lo hi : Nat} {w w1 : World} {m : Lie} {n : Nat} {L : Nat → Nat} {F : Rm.Mx} (h : Mat lo hi w m n L F) {k : Nat} (hk : k < n) {G : Nat → Int} (hw : Within (m.bs k) (m.bs k + 1) w w1)
    (hs : Seg w1 (m.bs k) 2 (m.os k) (L k) (fun j => .int .i64 (G j))) : Mat lo hi w1 m n L (fun i j => if i = k then G j else F i j) := by
  have key : ∀ b, b ≠ m.bs k → b < w.heap.size → w1.heap[b]? = w.heap[b]? := fun b h1 h2 => by
    by_cases e : b < m.bs k
    · exact hw.below.block b e
    · exact hw.above b (by omega) h2
  refine ⟨h.top.of_block (key _ (h.bne hk) h.top.lt), fun r hr => ?_, h.blo, h.bhi, h.rlo, h.rhi, h.apart⟩
  by_cases e : r = k
  · subst e
    exact hs.congr fun j _ => by simp
  · refine ((h.row r hr).of_block (key _ (fun c => e (h.apart r k hr hk c)) (h.row r hr).lt)).congr fun j _ => by simp [e]
set_option maxHeartbeats 800000 in
theorem heldS_some (b off n cap : Nat) (k0 : Int) (w : World) (h0 : 0 ≤ k0) (h1 : k0 + n ≤ 1000000000000) (hc : ∀ i : Nat, i < n → w.cell? ⟨b, off + i, none⟩ = some (.int .i64 (k0 + i))) :
    Calls Try.prog 58 #[.slice (some ⟨b, off, none⟩) n cap, .int .i64 k0] w fun e w' => e = .returned (.int .i64 (k0 + n)) ∧ w = w' := by
  go_enter Try.func58, Try.ntmps58
  go_wp2_with fail
  go_loopw [1, 5] (fun q i wr => wr = w ∧ ∃ k : Nat, k ≤ n ∧ i = .int .i64 k ∧ q = .int .i64 (k0 + k)) (fun _ i _ => n - (intOf i).toNat)
  case atStart => exact ⟨rfl, 0, Nat.zero_le _, rfl, by simp⟩
  case round =>
    obtain ⟨rfl, k, hk, rfl, rfl⟩ := hrel
    by_cases hkn : k < n
    · have g := hc k hkn
      clear hc
      go_wp2
      go_roundw
      case rel => exact ⟨by trivial, k + 1, by omega, by simp, by simp; omega⟩
      case measure => simp [intOf]; omega
    · obtain rfl : k = n := by omega
      clear hc
      go_wp2
      go_ret
      exact ⟨rfl, rfl⟩
theorem heldS_none (ao : Option Addr) (cap : Nat) (k0 : Int) (w : World) : Calls Try.prog 58 #[.slice ao 0 cap, .int .i64 k0] w fun e w' => e = .returned (.int .i64 k0) ∧ w = w' := by
  go_enter Try.func58, Try.ntmps58
  go_wp2_with fail
  refine wp_loop_rounds 1 ?_
  rw [rounds_succ]
  go_wp2
  go_ret
  exact ⟨rfl, rfl⟩
end Go.Proofs.Ytclnmikneomccaa
