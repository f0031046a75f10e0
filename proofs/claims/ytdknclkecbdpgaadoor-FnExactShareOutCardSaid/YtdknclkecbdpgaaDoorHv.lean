/- The value at a place of the numbers of a list, of both packages. -/
import Derived.Test.YtdknclkecbdpgaaDoorNums
import Derived.Test.YtdknclkecbdpgaaDoorRf
import Derived.Deep.QuietTactic
import Derived.BigQuiet
namespace Go.Proofs.YtdknclkecbdpgaaDoor
open Go.RowKit
set_option linter.unusedVariables false
set_option linter.unusedSimpArgs false
theorem sAdd_anyQ (a b : Int) (w : World) : Calls Tryd.prog 121 #[.int .i64 a, .int .i64 b] w fun e w' => e = .returned (.int .i64 (Rm.addM a b)) ∧ w' = w := (sAdd_any a b w).mono fun _ _ h => ⟨h.1, h.2.symm⟩
theorem iAdd_anyQ (a b : Int) (w : World) : Calls Tryd.prog 24 #[.int .i64 a, .int .i64 b] w fun e w' => e = .returned (.int .i64 (Rm.addM a b)) ∧ w' = w := (iAdd_any a b w).mono fun _ _ h => ⟨h.1, h.2.symm⟩
theorem sMul_anyQ (a b : Int) (w : World) : Calls Tryd.prog 122 #[.int .i64 a, .int .i64 b] w fun e w' => e = .returned (.int .i64 (Rm.mulM a b)) ∧ w' = w := (sMul_any a b w).mono fun _ _ h => ⟨h.1, h.2.symm⟩
theorem iMul_anyQ (a b : Int) (w : World) : Calls Tryd.prog 124 #[.int .i64 a, .int .i64 b] w fun e w' => e = .returned (.int .i64 (Rm.mulM a b)) ∧ w' = w := (iMul_any a b w).mono fun _ _ h => ⟨h.1, h.2.symm⟩
/-- The value at `a`, of the last j numbers of n. -/
def hv (F : Nat → Int) (a : Int) (n : Nat) : Nat → Int
  | 0 => 0
  | j + 1 => Rm.addM (Rm.mulM (hv F a n j) a) (F (n - 1 - j))
set_option maxRecDepth 20000 in
set_option maxHeartbeats 3200000 in
theorem sVal_any {w : World} {b off n cap : Nat} {F : Nat → Int} (hc : ∀ i, i < n → w.cell? ⟨b, off + i, none⟩ = some (.int .i64 (F i))) (a : Int) (hn : n ≤ 1000000) :
    Calls Tryd.prog 80 #[.slice (some ⟨b, off, none⟩) n cap, .int .i64 a] w fun e w' => e = .returned (.int .i64 (hv F a n n)) ∧ ∃ q, w' = w.drewN q := by
  have HC : Hid (∀ i, i < n → w.cell? ⟨b, off + i, none⟩ = some (.int .i64 (F i))) := hc
  have hw1 : IntKind.i64.wrap ((n : Int) - 1) = (n : Int) - 1 := wr64' (by omega) (by omega)
  clear hc
  go_enter Tryd.func80, Tryd.ntmps80
  go_wp2_with fail
  go_loopw [5, 6] (fun v i wr => ∃ m j q : Nat, m + j = n ∧ i = .int .i64 ((m : Int) - 1) ∧ v = .int .i64 (hv F a n j) ∧ wr = w.drewN q) (fun _ i _ => (intOf i + 1).toNat)
  case atStart => exact ⟨n, 0, 0, by omega, rfl, rfl, rfl⟩
  case round =>
    obtain ⟨m, j, q, hmj, rfl, rfl, hq⟩ := hrel
    have HQ0 : Hid (wr = w.drewN q) := hq
    clear hq
    cases m with
    | zero =>
      obtain rfl : j = n := by omega
      go_wp2
      go_ret
      exact ⟨rfl, q, HQ0.out⟩
    | succ m =>
      rw [show ((m + 1 : Nat) : Int) - 1 = (m : Int) by omega]
      have g1 : wr.cell? ⟨b, off + m, none⟩ = some (.int .i64 (F m)) := by rw [HQ0.out]; exact HC.out m (by omega)
      have hS : hv F a n (j + 1) = Rm.addM (Rm.mulM (hv F a n j) a) (F m) := by show Rm.addM _ (F (n - 1 - j)) = _; rw [show n - 1 - j = m by omega]
      obtain ⟨x, hx⟩ : ∃ x, x = F m := ⟨_, rfl⟩
      obtain ⟨y, hy⟩ : ∃ y, y = hv F a n j := ⟨_, rfl⟩
      rw [← hx] at g1 hS
      rw [← hy] at hS ⊢
      have HS : Hid (hv F a n (j + 1) = Rm.addM (Rm.mulM y a) x) := hS
      have hmn : (m : Int) < n := by omega
      have hw2 : IntKind.i64.wrap ((m : Int) - 1) = (m : Int) - 1 := wr64' (by omega) (by omega)
      clear hx hy hS
      go_wp2_with fail
      go_quiet (first | (go_at_call 122; exact Calls.quiet_of_same (sMul_anyQ _ _ _)) | (go_at_call 121; exact Calls.quiet_of_same (sAdd_anyQ _ _ _)))
      go_wp2
      go_roundw
      case rel => exact ⟨m, j + 1, q + nq, by omega, rfl, by rw [HS.out], by rw [HQ0.out, World.drewN_drewN]⟩
      case measure => simp [intOf] <;> omega
set_option maxRecDepth 20000 in
set_option maxHeartbeats 3200000 in
theorem iVal_any {w : World} {b off n cap : Nat} {F : Nat → Int} (hc : ∀ i, i < n → w.cell? ⟨b, off + i, none⟩ = some (.int .i64 (F i))) (a : Int) (hn : n ≤ 1000000) :
    Calls Tryd.prog 83 #[.slice (some ⟨b, off, none⟩) n cap, .int .i64 a] w fun e w' => e = .returned (.agg #[.int .i64 a, .int .i64 (hv F a n n)]) ∧ Below w.heap.size w w' := by
  obtain ⟨z, hz⟩ : ∃ W, W = w.alloc (.cells #[.int .i64 0, .int .i64 0] 33) := ⟨_, rfl⟩
  have HB : Hid (Blk z w.heap.size #[.int .i64 0, .int .i64 0] 33 ∧ Below w.heap.size w z) := by rw [hz]; exact ⟨Blk.new rfl, (Below.refl _ _).alloc (Nat.le_refl _) _⟩
  have HC : Hid (∀ i, i < n → z.cell? ⟨b, off + i, none⟩ = some (.int .i64 (F i))) := fun i hi => (HB.out.2.cell (World.block_lt_of_cell? _ _ (hc i hi))).trans (hc i hi)
  have hw1 : IntKind.i64.wrap ((n : Int) - 1) = (n : Int) - 1 := wr64' (by omega) (by omega)
  clear hc
  go_enter Tryd.func83, Tryd.ntmps83
  go_wp2_with fail
  rw [← hz]
  clear hz
  go_loopw [5, 6] (fun v i wr => ∃ m j q : Nat, m + j = n ∧ i = .int .i64 ((m : Int) - 1) ∧ v = .int .i64 (hv F a n j) ∧ wr = z.drewN q) (fun _ i _ => (intOf i + 1).toNat)
  case atStart => exact ⟨n, 0, 0, by omega, rfl, rfl, rfl⟩
  case round =>
    obtain ⟨m, j, q, hmj, rfl, rfl, hq⟩ := hrel
    have HQ0 : Hid (wr = z.drewN q) := hq
    clear hq
    cases m with
    | zero =>
      obtain rfl : j = n := by omega
      have HQ : Hid (Blk wr w.heap.size #[.int .i64 0, .int .i64 0] 33 ∧ Below w.heap.size w wr) := by rw [HQ0.out]; exact ⟨HB.out.1.later (below_drewN (Below.refl _ _) q), below_drewN HB.out.2 q⟩
      have c0 := HQ.out.1.cell (j := 0) (v := .int .i64 0) rfl
      have c1 := HQ.out.1.cell (j := 1) (v := .int .i64 0) rfl
      have f0 := HQ.out.1.frozen 0
      have f1 := HQ.out.1.frozen 1
      go_wp2
      exact bodyPost_ret (v := .agg #[.int .i64 a, .int .i64 (hv F a j j)]) (by simp [results, Tryd.results83, go_sem, c0, c1]) rfl ⟨rfl, (HQ.out.2.setCell (by simp) _).setCell (by simp) _⟩
    | succ m =>
      rw [show ((m + 1 : Nat) : Int) - 1 = (m : Int) by omega]
      have g1 : wr.cell? ⟨b, off + m, none⟩ = some (.int .i64 (F m)) := by rw [HQ0.out]; exact HC.out m (by omega)
      have hS : hv F a n (j + 1) = Rm.addM (Rm.mulM (hv F a n j) a) (F m) := by show Rm.addM _ (F (n - 1 - j)) = _; rw [show n - 1 - j = m by omega]
      obtain ⟨x, hx⟩ : ∃ x, x = F m := ⟨_, rfl⟩
      obtain ⟨y, hy⟩ : ∃ y, y = hv F a n j := ⟨_, rfl⟩
      rw [← hx] at g1 hS
      rw [← hy] at hS ⊢
      have HS : Hid (hv F a n (j + 1) = Rm.addM (Rm.mulM y a) x) := hS
      have hmn : (m : Int) < n := by omega
      have hw2 : IntKind.i64.wrap ((m : Int) - 1) = (m : Int) - 1 := wr64' (by omega) (by omega)
      clear hx hy hS
      go_wp2_with fail
      go_quiet (first | (go_at_call 124; exact Calls.quiet_of_same (iMul_anyQ _ _ _)) | (go_at_call 24; exact Calls.quiet_of_same (iAdd_anyQ _ _ _)))
      go_wp2
      go_roundw
      case rel => exact ⟨m, j + 1, q + nq, by omega, rfl, by rw [HS.out], by rw [HQ0.out, World.drewN_drewN]⟩
      case measure => simp [intOf] <;> omega
end Go.Proofs.YtdknclkecbdpgaaDoor
