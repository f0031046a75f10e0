/- The program's product of matrices: contracts. -/
import Derived.Test.YtboppklcmdfphaaFaults
import Derived.Test.YtboppklcmdfphaaEqs
import Derived.Deep.RegionHeld3
import Derived.Deep.DeepCutAuto
namespace Go.Proofs.Ytboppklcmdfphaa
open Go.RowKit
theorem Mat.cellAt {lo hi : Nat} {w : World} {m : Lie} {n : Nat} {L : Nat → Nat} {F : Rm.Mx} (h : Mat lo hi w m n L F) {i j : Nat} (hi : i < n) (hj : j < L i) : w.cell? ⟨m.bs i, m.os i + j, none⟩ = some (.int .i64 (F i j)) := (h.row i hi).cell hj
theorem Mat.cellRow {lo hi : Nat} {w : World} {m : Lie} {n : Nat} {L : Nat → Nat} {F : Rm.Mx} (h : Mat lo hi w m n L F) {i : Nat} (hi : i < n) : w.cell? ⟨m.b, i, none⟩ = some (.slice (some ⟨m.bs i, m.os i, none⟩) (L i) (m.cs i)) := h.cellTop hi
theorem zero_step {B : Nat} {wr : World} {n k m : Nat} (h : Laying B wr n k (fun _ => m) (fun _ _ => 0)) (hk : k < n) :
    Laying B ((wr.alloc (.cells (madeCells #[.int .i64 0] m) 2)).setCell ⟨B, k, none⟩ (.slice (some ⟨wr.heap.size, 0, none⟩) m m)) n (k + 1) (fun _ => m) (fun _ _ => 0) := by
  have := h.step hk ((Below.refl wr.heap.size wr).alloc (Nat.le_refl _) (.cells (madeCells #[.int .i64 0] m) 2)) (by simp) (seg_made wr (.int .i64 0) m 2)
  rwa [← h.size] at this
set_option maxHeartbeats 800000 in
theorem zeroRows_any (n m : Nat) (w : World) (hn : n ≤ 1000000000000) (hm : m ≤ 1000000000000) :
    Calls Try.prog 77 #[.int .i64 n, .int .i64 m] w fun e w' => e = .returned (.slice (some ⟨w.heap.size, 0, none⟩) n n) ∧
      Mat w.heap.size w'.heap.size w' (newLie w.heap.size n (fun _ => m)) n (fun _ => m) (fun _ _ => 0) ∧ Below w.heap.size w w' := by
  have hmk := run_make_row' (P := Try.prog) 22 32 (.slice none 0 0) 24 Try.underlying22 info38 rfl .i64 .i64 n (by omega) (by omega)
  have hmk2 := run_make_row' (P := Try.prog) 32 2 (.int .i64 0) 8 Try.underlying32 info2 rfl .i64 .i64 m (by omega) (by omega)
  go_enter Try.func77, Try.ntmps77
  go_wp2_with fail
  clear hmk
  go_loopw [10] (fun i wr => ∃ k : Nat, k ≤ n ∧ i = .int .i64 k ∧ Laying w.heap.size wr n k (fun _ => m) (fun _ _ => 0) ∧ Below w.heap.size w wr) (fun i _ => n - (intOf i).toNat)
  case atStart => exact ⟨0, Nat.zero_le _, rfl, laying_start w n _ _, (Below.refl _ _).alloc (Nat.le_refl _) _⟩
  case round =>
    obtain ⟨k, hk, rfl, hs, hb⟩ := hrel
    by_cases hkn : k < n
    · have hz0 := hs.size
      have g2 : ∀ o, (wr.alloc o).cell? ⟨w.heap.size, k, none⟩ = some (.slice none 0 0) := fun o => by simpa using (hs.top.alloc o).cell hkn
      have g3 : ∀ o, (wr.alloc o).frozen? ⟨w.heap.size, k, none⟩ = false := fun o => (hs.top.alloc o).frozen k
      have HR : Hid (Laying w.heap.size ((wr.alloc (.cells (madeCells #[.int .i64 0] m) 2)).setCell ⟨w.heap.size, k, none⟩ (.slice (some ⟨wr.heap.size, 0, none⟩) m m)) n (k + 1) (fun _ => m) (fun _ _ => 0) ∧ Below w.heap.size w ((wr.alloc (.cells (madeCells #[.int .i64 0] m) 2)).setCell ⟨w.heap.size, k, none⟩ (.slice (some ⟨wr.heap.size, 0, none⟩) m m))) :=
        ⟨zero_step hs hkn, (hb.alloc (by omega) _).setCell (Nat.le_refl _) _⟩
      clear hs hb hz0
      go_wp2
      go_roundw
      case rel => exact ⟨k + 1, by omega, by simp, HR.out.1, HR.out.2⟩
      case measure => simp [intOf]; omega
    · obtain rfl : k = n := by omega
      go_wp2
      go_ret
      exact ⟨rfl, hs.mat, hb⟩
set_option maxHeartbeats 800000 in
theorem rowCol_any {lo hi : Nat} {mb : Lie} {n j i : Nat} {L : Nat → Nat} {A B : Rm.Mx} {w : World} (b off cap : Nat) (hM : Mat lo hi w mb n L B) (hn : n ≤ 1000000000000) (hL : ∀ k, k < n → L k = n) (hj : j < n)
    (hr : ∀ k, k < n → w.cell? ⟨b, off + k, none⟩ = some (.int .i64 (A i k))) :
    Calls Try.prog 115 #[.slice (some ⟨b, off, none⟩) n cap, .slice (some ⟨mb.b, 0, none⟩) n mb.cap, .int .i64 j] w fun e w' => e = .returned (.int .i64 (Rm.dot A B i j n)) ∧ ∃ q, w' = w.drewN q := by
  have HM : Hid (Mat lo hi w mb n L B) := hM
  have HL : Hid (∀ k, k < n → L k = n) := hL
  have HR : Hid (∀ k, k < n → w.cell? ⟨b, off + k, none⟩ = some (.int .i64 (A i k))) := hr
  clear hM hL hr
  go_enter Try.func115, Try.ntmps115
  go_wp2_with fail
  go_loopw [11, 7] (fun c s wr => ∃ k q : Nat, k ≤ n ∧ c = .int .i64 k ∧ s = .int .i64 (Rm.dot A B i j k) ∧ wr = w.drewN q) (fun c _ _ => n - (intOf c).toNat)
  case atStart => exact ⟨0, 0, Nat.zero_le _, rfl, rfl, rfl⟩
  case round =>
    obtain ⟨k, q, hk, rfl, rfl, hq⟩ := hrel
    by_cases hkn : k < n
    · have g1 : wr.cell? ⟨b, off + k, none⟩ = some (.int .i64 (A i k)) := by rw [hq]; exact HR.out k hkn
      have g2 : wr.cell? ⟨mb.b, k, none⟩ = some (.slice (some ⟨mb.bs k, mb.os k, none⟩) n (mb.cs k)) := by
        rw [hq]
        have := HM.out.cellRow hkn
        rw [HL.out k hkn] at this
        exact this
      have g3 : wr.cell? ⟨mb.bs k, mb.os k + j, none⟩ = some (.int .i64 (B k j)) := by rw [hq]; exact HM.out.cellAt hkn (by rw [HL.out k hkn]; exact hj)
      have HQ : Hid (wr = w.drewN q) := hq
      clear hq
      go_wp2
      go_quiet (first | (go_at_call 99; exact quiet_eq (iMul_any _ _ _)) | (go_at_call 117; exact quiet_eq (iAdd_any _ _ _)))
      go_wp2
      go_roundw
      case rel => exact ⟨k + 1, q + nq, by omega, by simp, rfl, by rw [HQ.out, World.drewN_drewN]⟩
      case measure => simp [intOf]; omega
    · obtain rfl : k = n := by omega
      subst hq
      go_wp2
      go_ret
      exact ⟨rfl, q, rfl⟩
end Go.Proofs.Ytboppklcmdfphaa
