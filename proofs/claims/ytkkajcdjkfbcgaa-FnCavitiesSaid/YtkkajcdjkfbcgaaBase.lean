/- The bounds, lowest terms, the faults of a fraction: contracts of both packages' functions. -/
import Derived.Test.YtkkajcdjkfbcgaaGcd
import Derived.WalkKit
import Derived.WalkSpells
import Derived.Outline
import Derived.RegionTactic
import Derived.Deep.QuietTactic
import Derived.Deep.RegionWith
import Derived.BigQuiet
import Derived.BigRegion
import Derived.WalkSmall
namespace Go.Proofs.Ytkkajcdjkfbcgaa
open Go.RowKit
def inB (n d : Int) : Bool := decide (1 ≤ d ∧ d ≤ 1000000000 ∧ -1000000000 ≤ n ∧ n ≤ 1000000000)
theorem inB_t {n d : Int} (h : inB n d = true) : 1 ≤ d ∧ d ≤ 1000000000 ∧ -1000000000 ≤ n ∧ n ≤ 1000000000 := by simpa [inB] using h
theorem ret_bool {a b : Bool} (h : a = b) : Ending.returned (.bool a) = .returned (.bool b) := by rw [h]

theorem within_any (n d : Int) (w : World) :
    Calls Try.prog 129 #[.agg #[.int .i64 n, .int .i64 d]] w fun e w' => e = .returned (.bool (inB n d)) ∧ w' = w.alloc (.cells #[.int .i64 n, .int .i64 d] 32) := by
  by_cases h1 : 1 ≤ d
  · by_cases h2 : d ≤ 1000000000
    · by_cases h3 : -1000000000 ≤ n
      · go_enter Try.func129, Try.ntmps129
        go_wp2
        go_ret
        exact ⟨ret_bool (by simp [inB, h1, h2, h3]), rfl⟩
      · go_enter Try.func129, Try.ntmps129
        go_wp2
        go_ret
        exact ⟨ret_bool (by simp [inB]; omega), rfl⟩
    · go_enter Try.func129, Try.ntmps129
      go_wp2
      go_ret
      exact ⟨ret_bool (by simp [inB]; omega), rfl⟩
  · go_enter Try.func129, Try.ntmps129
    go_wp2
    go_ret
    exact ⟨ret_bool (by simp [inB]; omega), rfl⟩

set_option maxHeartbeats 400000 in
theorem lowest_pos (n d : Int) (w : World) (h1 : -3000000000000000000 ≤ n) (h2 : n ≤ 3000000000000000000) (h3 : 1 ≤ d) (h4 : d ≤ 3000000000000000000) :
    Calls Try.prog 130 #[.int .i64 n, .int .i64 d] w fun e w' => e = .returned (.agg #[.int .i64 (Fm.rN n d), .int .i64 (Fm.rD n d)]) ∧ Below w.heap.size w w' := by
  have hg := Fm.gcd_pos n d (by omega)
  have hl := Fm.gcd_le n d (by omega)
  have hz : ((Int.gcd n d : Int) == 0) = false := by rw [beq_eq_false_iff_ne]; omega
  rw [Fm.rN_pos (by omega), Fm.rD_pos (by omega)]
  go_enter Try.func130, Try.ntmps130
  go_wp2_with (go_at_call 131; refine (cd_any _ _ _ (by omega) (by omega) (by omega) (by omega)).mono ?_; rintro e w' ⟨rfl, nq, rfl⟩)
  go_region
  go_wp2
  exact bodyPost_ret (v := .agg #[.int .i64 (n.tdiv (Int.gcd n d)), .int .i64 (d / (Int.gcd n d))]) (by simp [results, Try.results130, go_sem]) rfl ⟨rfl, ((below_drewN ((Below.refl _ _).alloc (Nat.le_refl _) _) _).setCell (by simp) _).setCell (by simp) _⟩

set_option maxHeartbeats 400000 in
theorem lowest_neg (n d : Int) (w : World) (h1 : -3000000000000000000 ≤ n) (h2 : n ≤ 3000000000000000000) (h3 : d < 0) (h4 : -3000000000000000000 ≤ d) :
    Calls Try.prog 130 #[.int .i64 n, .int .i64 d] w fun e w' => e = .returned (.agg #[.int .i64 (Fm.rN n d), .int .i64 (Fm.rD n d)]) ∧ Below w.heap.size w w' := by
  have hg := Fm.gcd_pos n d (by omega)
  have hl := Fm.gcd_le n d (by omega)
  have hz : ((Int.gcd n d : Int) == 0) = false := by rw [beq_eq_false_iff_ne]; omega
  have hn1 := Fm.tdiv_bd n (Int.gcd n d)
  have hn2 := Fm.tdiv_bd d (Int.gcd n d)
  have hb1 : -3000000000000000000 ≤ n.tdiv (Int.gcd n d) := by omega
  have hb2 : n.tdiv (Int.gcd n d) ≤ 3000000000000000000 := by omega
  have hb3 : -3000000000000000000 ≤ d.tdiv (Int.gcd n d) := by omega
  have hb4 : d.tdiv (Int.gcd n d) ≤ 3000000000000000000 := by omega
  clear hn1 hn2
  rw [Fm.rN_neg h3, Fm.rD_neg h3]
  go_enter Try.func130, Try.ntmps130
  go_wp2_with (go_at_call 131; refine (cd_any _ _ _ (by omega) (by omega) (by omega) (by omega)).mono ?_; rintro e w' ⟨rfl, nq, rfl⟩)
  go_region
  go_wp2
  exact bodyPost_ret (v := .agg #[.int .i64 (-(n.tdiv (Int.gcd n d))), .int .i64 (-(d.tdiv (Int.gcd n d)))]) (by simp [results, Try.results130, go_sem]) rfl ⟨rfl, ((below_drewN ((Below.refl _ _).alloc (Nat.le_refl _) _) _).setCell (by simp) _).setCell (by simp) _⟩

theorem lowest_any (n d : Int) (w : World) (h1 : -3000000000000000000 ≤ n) (h2 : n ≤ 3000000000000000000) (h3 : -3000000000000000000 ≤ d) (h4 : d ≤ 3000000000000000000) (h : d ≠ 0) :
    Calls Try.prog 130 #[.int .i64 n, .int .i64 d] w fun e w' => e = .returned (.agg #[.int .i64 (Fm.rN n d), .int .i64 (Fm.rD n d)]) ∧ Below w.heap.size w w' := by
  by_cases hd : d < 0
  · exact lowest_neg n d w h1 h2 hd h3
  · exact lowest_pos n d w h1 h2 (by omega) h4
end Go.Proofs.Ytkkajcdjkfbcgaa
