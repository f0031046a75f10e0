/- The code of a fault; too many bytes; the sum of bytes, of both packages. -/
import Derived.Test.YtdknclkecbdpgaaDoorCo
import Derived.Test.YtdknclkecbdpgaaDoorCp
namespace Go.Proofs.YtdknclkecbdpgaaDoor
open Go.RowKit
set_option linter.unusedVariables false
set_option linter.unusedSimpArgs false
/-- A fault with a code; none for 0. -/
def er (c : Int) : Value := if c = 0 then .nilIface else .iface 128 (.agg #[.int .i64 c])
theorem er_0 : er 0 = .nilIface := rfl
theorem er_c {c : Int} (h : c ≠ 0) : er c = .iface 128 (.agg #[.int .i64 c]) := by simp [er, h]
set_option maxHeartbeats 1600000 in
theorem code_any (c : Int) (w : World) (hg : Et w) : Calls Tryd.prog 81 #[er c] w fun e w' => e = .returned (.int .i64 c) ∧ Below w.heap.size w w' := by
  by_cases hc : c = 0
  · subst hc
    rw [er_0]
    go_enter Tryd.func81, Tryd.ntmps81
    go_wp2_with fail
    refine (as_nil _ _).mono ?_
    rintro e w' ⟨rfl, rfl⟩
    go_wp2
    go_ret
    exact ⟨rfl, by go_grown⟩
  · rw [er_c hc]
    have hA := as_hit c w.heap.size (.int .i64 0) (w.alloc (.cells #[.int .i64 0] 128)) (hg.alloc _) (by simp) (by simp)
    have HA : Hid _ := hA
    clear hA hg
    go_enter Tryd.func81, Tryd.ntmps81
    go_wp2_with fail
    refine Calls.mono HA.out ?_
    rintro e w' ⟨rfl, hw⟩
    have hc0 : w'.cell? ⟨w.heap.size, 0, none⟩ = some (.int .i64 c) := by
      rw [hw]
      exact ((((((Blk.new rfl).alloc _).alloc _).alloc _).alloc _).set 0 _ rfl).cell (j := 0) rfl
    have HB : Hid (Below w.heap.size w w') := by
      show Below _ _ _
      rw [hw]
      exact (((((((Below.refl _ _).alloc (Nat.le_refl _) _).alloc (by simp) _).alloc (by simp; omega) _).alloc (by simp; omega) _).alloc (by simp; omega) _).setCell (by simp) _)
    clear hw
    go_wp2
    go_ret
    exact ⟨rfl, HB.out⟩
/-- Too many bytes. -/
def mb (n : Nat) : Int := if 100000 < n then 2 else 0
theorem mb_0 {n : Nat} (h : mb n = 0) : n ≤ 100000 := by unfold mb at h; split at h <;> omega
theorem mb_ok {n : Nat} (h : n ≤ 100000) : mb n = 0 := by unfold mb; rw [if_neg (by omega)]
theorem mb_many {n : Nat} (h : 100000 < n) : mb n = 2 := by unfold mb; rw [if_pos h]
theorem bytesFault_any (ao : Option Addr) (n cap : Nat) (hn : n ≤ 1000000000000) (w : World) : Calls Tryd.prog 90 #[.slice ao n cap] w fun e w' => e = .returned (er (mb n)) ∧ w' = w := by
  by_cases h : (100000 : Int) < n
  · rw [mb_many (by omega), er_c (by decide)]
    go_enter Tryd.func90, Tryd.ntmps90
    go_wp2
    go_ret
    exact ⟨rfl, rfl⟩
  · rw [mb_ok (by omega), er_0]
    go_enter Tryd.func90, Tryd.ntmps90
    go_wp2
    go_ret
    exact ⟨rfl, rfl⟩
theorem many_any (ao : Option Addr) (n cap : Nat) (w : World) : Calls Tryd.prog 88 #[.slice ao n cap] w fun e w' => e = .returned (.bool (decide ((100000 : Int) < n))) ∧ w' = w := by
  go_enter Tryd.func88, Tryd.ntmps88
  go_wp2
  go_ret
  exact ⟨rfl, rfl⟩
theorem xor_any (a b : Int) (w : World) : Calls Tryd.prog 129 #[.int .i64 a, .int .i64 b] w fun e w' => e = .returned (.int .i64 (xo a b)) ∧ w' = w := by
  go_enter Tryd.func129, Tryd.ntmps129
  go_wp2
  go_ret
  exact ⟨rfl, rfl⟩
end Go.Proofs.YtdknclkecbdpgaaDoor
