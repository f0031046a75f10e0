/- The laws' own marks: numbers from k on are written into a list or a matrix that owns its blocks, and are found there again: contracts. -/
import Derived.Test.YtelejihgechmgaaToss
namespace Go.Proofs.Ytelejihgechmgaa
open Go.RowKit
set_option maxHeartbeats 800000 in
theorem markS_some (b off n cap : Nat) (f : Nat → Int) (k0 : Int) (w : World) (h0 : 0 ≤ k0) (h1 : k0 + n ≤ 1000000000000) (hs0 : Seg w b 2 off n (fun i => .int .i64 (f i))) :
    Calls Try.prog 41 #[.slice (some ⟨b, off, none⟩) n cap, .int .i64 k0] w fun e w' => e = .returned (.int .i64 (k0 + n)) ∧
      Seg w' b 2 off n (fun i => .int .i64 (k0 + i)) ∧ Within b (b + 1) w w' ∧ w'.heap.size = w.heap.size := by
  go_enter Try.func41, Try.ntmps41
  go_wp2_with fail
  go_loopw [1, 5] (fun q i wr => ∃ k : Nat, k ≤ n ∧ i = .int .i64 k ∧ q = .int .i64 (k0 + k) ∧ Seg wr b 2 off n (fun j => if j < k then .int .i64 (k0 + j) else .int .i64 (f j)) ∧ Within b (b + 1) w wr ∧ wr.heap.size = w.heap.size) (fun _ i _ => n - (intOf i).toNat)
  case atStart => exact ⟨0, Nat.zero_le _, rfl, by simp, hs0.congr (fun j _ => by simp), Within.refl _ _ _, rfl⟩
  case round =>
    obtain ⟨k, hk, rfl, rfl, hs, hb, hz⟩ := hrel
    clear hs0
    by_cases hkn : k < n
    · have g2 : wr.cell? ⟨b, off + k, none⟩ = some (.int .i64 (f k)) := by simpa using hs.cell hkn
      have g3 : wr.frozen? ⟨b, off + k, none⟩ = false := hs.frozen (off + k)
      have HS : Hid (Seg wr b 2 off n (fun j => if j < k then .int .i64 (k0 + j) else .int .i64 (f j)) ∧ Within b (b + 1) w wr ∧ wr.heap.size = w.heap.size) := ⟨hs, hb, hz⟩
      clear hs hb hz
      go_wp2
      go_roundw
      case rel =>
        obtain ⟨hs, hb, hz⟩ := HS.out
        refine ⟨k + 1, by omega, by simp, by simp; omega, ?_, hb.setCell (Nat.le_refl _) (Nat.lt_succ_self _) _, by simpa using hz⟩
        refine (hs.set k hkn (.int .i64 (k0 + k))).congr fun j hj => ?_
        by_cases e : j = k
        · subst e; simp
        · by_cases e2 : j < k
          · simp [e, e2, Nat.lt_succ_of_lt e2]
          · simp [e, e2]; intro h; omega
      case measure => simp [intOf]; omega
    · obtain rfl : k = n := by omega
      go_wp2
      go_ret
      exact ⟨rfl, hs.congr fun j hj => by simp [hj], hb, hz⟩
theorem markS_none (ao : Option Addr) (cap : Nat) (k0 : Int) (w : World) : Calls Try.prog 41 #[.slice ao 0 cap, .int .i64 k0] w fun e w' => e = .returned (.int .i64 k0) ∧ w = w' := by
  go_enter Try.func41, Try.ntmps41
  go_wp2_with fail
  refine wp_loop_rounds 1 ?_
  rw [rounds_succ]
  go_wp2
  go_ret
  exact ⟨rfl, rfl⟩
/-- One row of a matrix is written anew, and nothing else. -/
theorem Mat.anew {lo hi : Nat} {w w1 : World} {m : Lie} {n : Nat} {L : Nat → Nat} {F : Rm.Mx} (h : Mat lo hi w m n L F) {k : Nat} (hk : k < n) {G : Nat → Int} (hw : Within (m.bs k) (m.bs k + 1) w w1)
    (hs : Seg w1 (m.bs k) 2 (m.os k) (L k) (fun j => .int .i64 (G j))) : Mat lo hi w1 m n L (fun i j => if i = k then G j else F i j) := by
  have key : ∀ b, b ≠ m.bs k → b < w.heap.size → w1.heap[b]? = w.heap[b]? := fun b h1 h2 => by
    by_cases e : b < m.bs k
    · exact hw.below.block b e
    · exact hw.above b (by omega) h2
  refine ⟨h.top.of_block (key _ (h.bne hk) h.top.lt), fun r hr => ?_, h.blo, h.bhi, h.rlo, h.rhi, h.apart⟩
  by_cases e : r = k
  · subst e
    exact hs.congr fun j _ => by simp
  · refine ((h.row r hr).of_block (key _ (fun c => e (h.apart r k hr hk c)) (h.row r hr).lt)).congr fun j _ => by simp [e]
set_option maxHeartbeats 800000 in
theorem markSS_some {lo hi : Nat} {w : World} {m : Lie} {n : Nat} {L : Nat → Nat} {F : Rm.Mx} (h : Mat lo hi w m n L F) (k0 : Int) (h0 : 0 ≤ k0) (h1 : k0 + n + Sm L n ≤ 100000000000) :
    Calls Try.prog 78 #[.slice (some ⟨m.b, 0, none⟩) n m.cap, .int .i64 k0] w fun e w' => e = .returned (.int .i64 (k0 + Sm L n)) ∧
      Mat lo hi w' m n L (fun i j => k0 + Sm L i + j) ∧ Within lo hi w w' ∧ w'.heap.size = w.heap.size := by
  have H0 : Hid (Mat lo hi w m n L F) := h
  clear h
  go_enter Try.func78, Try.ntmps78
  go_wp2_with fail
  go_loopw [1, 5] (fun q i wr => ∃ k : Nat, k ≤ n ∧ i = .int .i64 k ∧ q = .int .i64 (k0 + Sm L k) ∧ Mat lo hi wr m n L (fun r c => if r < k then k0 + Sm L r + c else F r c) ∧ Within lo hi w wr ∧ wr.heap.size = w.heap.size) (fun _ i _ => n - (intOf i).toNat)
  case atStart => exact ⟨0, Nat.zero_le _, rfl, by simp [Sm], H0.out.congr (fun i j _ _ => by simp), Within.refl _ _ _, rfl⟩
  case round =>
    obtain ⟨k, hk, rfl, rfl, hs, hb, hz⟩ := hrel
    clear H0
    have hle := Sm_le (L := L) hk
    by_cases hkn : k < n
    · have g2 : wr.cell? ⟨m.b, k, none⟩ = some (.slice (some ⟨m.bs k, m.os k, none⟩) (L k) (m.cs k)) := hs.cellTop hkn
      have gs := hs.row k hkn
      have hle2 := Sm_le (L := L) (show k + 1 ≤ n by omega)
      rw [Sm] at hle2
      have HS : Hid (Mat lo hi wr m n L (fun r c => if r < k then k0 + Sm L r + c else F r c) ∧ Within lo hi w wr ∧ wr.heap.size = w.heap.size) := ⟨hs, hb, hz⟩
      clear hs hb hz
      go_wp2_with fail
      refine (markS_some _ _ _ _ _ _ _ (by omega) (by omega) gs).mono ?_
      rintro e w1 ⟨rfl, hr, hb1, hz1⟩
      have HR : Hid (Mat lo hi w1 m n L (fun r c => if r < k + 1 then k0 + Sm L r + c else F r c) ∧ Within lo hi w w1 ∧ w1.heap.size = w.heap.size) := by
        obtain ⟨hs, hb, hz⟩ := HS.out
        refine ⟨(hs.anew hkn (G := fun j => k0 + Sm L k + j) hb1 hr).congr fun i j _ _ => ?_, hb.trans (hb1.mono (hs.rlo k hkn) (hs.rhi k hkn)), by omega⟩
        by_cases e : i = k
        · subst e; simp
        · by_cases e2 : i < k
          · simp [e, e2, Nat.lt_succ_of_lt e2]
          · simp [e, e2]; intro h; omega
      clear HS gs hr hb1 hz1
      go_wp2
      go_roundw
      case rel => exact ⟨k + 1, by omega, by simp, by simp only [Sm, Int.natCast_add, Int.add_assoc], HR.out⟩
      case measure => simp [intOf]; omega
    · obtain rfl : k = n := by omega
      go_wp2
      go_ret
      exact ⟨rfl, hs.congr fun i j hi _ => by simp [hi], hb, hz⟩
theorem markSS_none (ao : Option Addr) (cap : Nat) (k0 : Int) (w : World) : Calls Try.prog 78 #[.slice ao 0 cap, .int .i64 k0] w fun e w' => e = .returned (.int .i64 k0) ∧ w = w' := by
  go_enter Try.func78, Try.ntmps78
  go_wp2_with fail
  refine wp_loop_rounds 1 ?_
  rw [rounds_succ]
  go_wp2
  go_ret
  exact ⟨rfl, rfl⟩

set_option maxHeartbeats 800000 in
theorem heldS_some (b off n cap : Nat) (k0 : Int) (w : World) (h0 : 0 ≤ k0) (h1 : k0 + n ≤ 1000000000000) (hc : ∀ i : Nat, i < n → w.cell? ⟨b, off + i, none⟩ = some (.int .i64 (k0 + i))) :
    Calls Try.prog 60 #[.slice (some ⟨b, off, none⟩) n cap, .int .i64 k0] w fun e w' => e = .returned (.int .i64 (k0 + n)) ∧ w = w' := by
  go_enter Try.func60, Try.ntmps60
  go_wp2_with fail
  go_loopw [1, 5] (fun q i wr => wr = w ∧ ∃ k : Nat, k ≤ n ∧ i = .int .i64 k ∧ q = .int .i64 (k0 + k)) (fun _ i _ => n - (intOf i).toNat)
  case atStart => exact ⟨rfl, 0, Nat.zero_le _, rfl, by simp⟩
  case round =>
    obtain ⟨rfl, k, hk, rfl, rfl⟩ := hrel
    by_cases hkn : k < n
    · have g := hc k hkn
      clear hc
      go_wp2
      go_roundw
      case rel => exact ⟨by trivial, k + 1, by omega, by simp, by simp; omega⟩
      case measure => simp [intOf]; omega
    · obtain rfl : k = n := by omega
      clear hc
      go_wp2
      go_ret
      exact ⟨rfl, rfl⟩
theorem heldS_none (ao : Option Addr) (cap : Nat) (k0 : Int) (w : World) : Calls Try.prog 60 #[.slice ao 0 cap, .int .i64 k0] w fun e w' => e = .returned (.int .i64 k0) ∧ w = w' := by
  go_enter Try.func60, Try.ntmps60
  go_wp2_with fail
  refine wp_loop_rounds 1 ?_
  rw [rounds_succ]
  go_wp2
  go_ret
  exact ⟨rfl, rfl⟩
set_option maxHeartbeats 800000 in
theorem heldSS_some {lo hi : Nat} {w : World} {m : Lie} {n : Nat} {L : Nat → Nat} (k0 : Int) (h : Mat lo hi w m n L (fun i j => k0 + Sm L i + j)) (h0 : 0 ≤ k0) (h1 : k0 + n + Sm L n ≤ 100000000000) :
    Calls Try.prog 79 #[.slice (some ⟨m.b, 0, none⟩) n m.cap, .int .i64 k0] w fun e w' => e = .returned (.int .i64 (k0 + Sm L n)) ∧ w = w' := by
  have H0 : Hid (Mat lo hi w m n L (fun i j => k0 + Sm L i + j)) := h
  clear h
  go_enter Try.func79, Try.ntmps79
  go_wp2_with fail
  go_loopw [1, 5] (fun q i wr => wr = w ∧ ∃ k : Nat, k ≤ n ∧ i = .int .i64 k ∧ q = .int .i64 (k0 + Sm L k)) (fun _ i _ => n - (intOf i).toNat)
  case atStart => exact ⟨rfl, 0, Nat.zero_le _, rfl, by simp [Sm]⟩
  case round =>
    obtain ⟨rfl, k, hk, rfl, rfl⟩ := hrel
    have hle := Sm_le (L := L) hk
    by_cases hkn : k < n
    · have g2 : wr.cell? ⟨m.b, k, none⟩ = some (.slice (some ⟨m.bs k, m.os k, none⟩) (L k) (m.cs k)) := H0.out.cellTop hkn
      have gs : ∀ i : Nat, i < L k → wr.cell? ⟨m.bs k, m.os k + i, none⟩ = some (.int .i64 (k0 + Sm L k + i)) := fun i hi => (H0.out.row k hkn).cell hi
      have hle2 := Sm_le (L := L) (show k + 1 ≤ n by omega)
      rw [Sm] at hle2
      have GS : Hid (∀ i : Nat, i < L k → wr.cell? ⟨m.bs k, m.os k + i, none⟩ = some (.int .i64 (k0 + Sm L k + i))) := gs
      clear gs
      go_wp2_with fail
      refine (heldS_some _ _ _ _ _ _ (by omega) (by omega) GS.out).mono ?_
      rintro e w1 ⟨rfl, rfl⟩
      go_wp2
      go_roundw
      case rel => exact ⟨by trivial, k + 1, by omega, by simp, by simp only [Sm, Int.natCast_add, Int.add_assoc]⟩
      case measure => simp [intOf]; omega
    · obtain rfl : k = n := by omega
      go_wp2
      go_ret
      exact ⟨rfl, rfl⟩
theorem heldSS_none (ao : Option Addr) (cap : Nat) (k0 : Int) (w : World) : Calls Try.prog 79 #[.slice ao 0 cap, .int .i64 k0] w fun e w' => e = .returned (.int .i64 k0) ∧ w = w' := by
  go_enter Try.func79, Try.ntmps79
  go_wp2_with fail
  refine wp_loop_rounds 1 ?_
  rw [rounds_succ]
  go_wp2
  go_ret
  exact ⟨rfl, rfl⟩
end Go.Proofs.Ytelejihgechmgaa
