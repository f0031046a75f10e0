/- A place of a map: where the way to it comes from (100), the number that stands there (101). -/
import Derived.Test.YtbagaicbochmnaaImul
import Derived.Test.YtbagaicbochmnaaUr
namespace Go.Proofs.Ytbagaicbochmnaa
open Go.RowKit
set_option linter.unusedVariables false
def ahd (i j : Nat) : Nat × Nat := if 0 < j then (i, j - 1) else (i - 1, 0)
set_option maxHeartbeats 1000000 in
theorem ahead_any (i j : Nat) (w : World) (hi : i ≤ 1000) (hj : j ≤ 1000) : Calls Try.prog 100 #[.agg #[.int .i64 (i : Int), .int .i64 (j : Int)]] w fun e w' => e = .returned (.agg #[.int .i64 ((ahd i j).1 : Int), .int .i64 ((ahd i j).2 : Int)]) ∧ Below w.heap.size w w' := by
  by_cases h : 0 < j
  · have e1 : ahd i j = (i, j - 1) := by simp [ahd, h]
    rw [e1]
    obtain ⟨q, rfl⟩ : ∃ q, j = q + 1 := ⟨j - 1, by omega⟩
    have hg : (0 : Int) < ((q + 1 : Nat) : Int) := by omega
    go_enter Try.func100, Try.ntmps100
    go_wp2
    refine bodyPost_ret (v := .agg #[.int .i64 ((i : Nat) : Int), .int .i64 ((q : Nat) : Int)]) (by simp [results, Try.results100, go_sem]) rfl ⟨by simp, ((Below.refl _ w).alloc (Nat.le_refl _) _).alloc (by simp) _⟩
  · have e1 : ahd i j = (i - 1, 0) := by simp [ahd, h]
    rw [e1]
    obtain rfl : j = 0 := by omega
    by_cases h0 : i = 0
    · subst h0
      go_enter Try.func100, Try.ntmps100
      go_wp2
      refine bodyPost_ret (v := .agg #[.int .i64 ((0 : Nat) : Int), .int .i64 ((0 : Nat) : Int)]) (by simp [results, Try.results100, go_sem]) rfl ⟨by simp, ((Below.refl _ w).alloc (Nat.le_refl _) _).alloc (by simp) _⟩
    · obtain ⟨q, rfl⟩ : ∃ q, i = q + 1 := ⟨i - 1, by omega⟩
      go_enter Try.func100, Try.ntmps100
      go_wp2
      refine bodyPost_ret (v := .agg #[.int .i64 ((q : Nat) : Int), .int .i64 ((0 : Nat) : Int)]) (by simp [results, Try.results100, go_sem]) rfl ⟨by simp, ((Below.refl _ w).alloc (Nat.le_refl _) _).alloc (by simp) _⟩
set_option maxHeartbeats 1000000 in
theorem in_any (i j b off n cap g o m c : Nat) (x : Int) (w : World) (hi : i < n) (hj : j < m) (hn : n ≤ 1000) (hm : m ≤ 1000) (h1 : w.cell? ⟨b, off + i, none⟩ = some (.slice (some ⟨g, o, none⟩) m c)) (h2 : w.cell? ⟨g, o + j, none⟩ = some (.int .i64 x)) :
    Calls Try.prog 101 #[.agg #[.int .i64 (i : Int), .int .i64 (j : Int)], .slice (some ⟨b, off, none⟩) n cap] w fun e w' => e = .returned (.int .i64 x) ∧ Below w.heap.size w w' := by
  have hb : b < w.heap.size := World.block_lt_of_cell? _ _ h1
  have hg : g < w.heap.size := World.block_lt_of_cell? _ _ h2
  have HB : Hid (Below w.heap.size w (w.alloc (.cells #[.int .i64 (i : Int), .int .i64 (j : Int)] 77))) := (Below.refl _ w).alloc (Nat.le_refl _) _
  have k1 : (w.alloc (.cells #[.int .i64 (i : Int), .int .i64 (j : Int)] 77)).cell? ⟨b, off + i, none⟩ = some (.slice (some ⟨g, o, none⟩) m c) := (HB.out.cell hb).trans h1
  have k2 : (w.alloc (.cells #[.int .i64 (i : Int), .int .i64 (j : Int)] 77)).cell? ⟨g, o + j, none⟩ = some (.int .i64 x) := (HB.out.cell hg).trans h2
  go_enter Try.func101, Try.ntmps101
  go_wp2
  go_quiet (fail)
  go_wp2
  go_ret
  exact ⟨rfl, below_drewN HB.out _⟩
end Go.Proofs.Ytbagaicbochmnaa
