/- The law's own choice out of bytes, its bound, its comparison of floats: contracts. -/
import Derived.Test.YtbhpdlhmkmkbhaaDraws
namespace Go.Proofs.Ytbhpdlhmkmkbhaa
open Go.RowKit Fl
set_option linter.unusedVariables false
theorem big_any (ao : Option Addr) (n cap : Nat) (w : World) : Calls Try.prog 15 #[.slice ao n cap] w fun e w' => e = .returned (.bool (decide ((1048576 : Int) < (n : Int)))) ∧ w = w' := by
  go_enter Try.func15, Try.ntmps15
  go_wp2
  go_ret
  exact ⟨rfl, rfl⟩
theorem lwSame_any {x y : Nat} (hx : x < 18446744073709551616) (hy : y < 18446744073709551616) (h : cl x = cl y) (w : World) : Calls Try.prog 17 #[.float .f64 x, .float .f64 y] w fun e w' => e = .returned (.bool true) ∧ w = w' := by
  have hc : cmpF x y = 0 := by
    have : rk x = rk y := by
      have : fb x = fb y := by
        unfold fb
        rcases cl_cases h with ⟨h1, h2⟩ | ⟨h1, _⟩
        · rw [if_neg h1, if_neg h2]
        · rw [h1]
      unfold rk
      rw [this]
    unfold cmpF
    rw [this]; simp
  have HI : Hid (∀ w, Calls Try.prog 20 #[.float .f64 x, .float .f64 y] w fun e w' => e = .returned (.int .i64 0) ∧ w = w') := fun w => by
    rw [← hc]; exact iCmp_any hx hy w
  clear hc h
  go_enter Try.func17, Try.ntmps17
  go_wp2_with fail
  refine (HI.out _).mono ?_
  rintro e w1 ⟨rfl, rfl⟩
  go_wp2
  go_ret
  exact ⟨rfl, rfl⟩
set_option maxHeartbeats 800000 in
theorem at_none (ao : Option Addr) (cap : Nat) (w : World) : Calls Try.prog 28 #[.slice ao 0 cap, .int .i64 2, .int .i64 30000] w fun e w' => ∃ r : Int, e = .returned (.int .i64 r) ∧ 0 ≤ r ∧ r < 30000 ∧ ∃ q, w' = w.drewN q := by
  go_enter Try.func28, Try.ntmps28
  go_wp2
  go_ret
  exact ⟨14, rfl, by omega, by omega, 0, rfl⟩
set_option maxHeartbeats 1600000 in
theorem at_some (b off n cap : Nat) (x y q : Int) (i j : Nat) (w : World) (hn : 0 < n) (hn2 : n ≤ 1000000000000) (hi : i < n) (hj : j < n) (hr : (2 : Int).tmod (n : Int) = (i : Int)) (hr2 : (3 : Int).tmod (n : Int) = (j : Int)) (hq : (2 : Int).tdiv (n : Int) = q) (q0 : 0 ≤ q) (q1 : q ≤ 2) (x0 : 0 ≤ x) (x1 : x ≤ 255) (y0 : 0 ≤ y) (y1 : y ≤ 255)
    (hx : w.cell? ⟨b, off + i, none⟩ = some (.int .u8 x)) (hy : w.cell? ⟨b, off + j, none⟩ = some (.int .u8 y)) :
    Calls Try.prog 28 #[.slice (some ⟨b, off, none⟩) n cap, .int .i64 2, .int .i64 30000] w fun e w' => ∃ r : Int, e = .returned (.int .i64 r) ∧ 0 ≤ r ∧ r < 30000 ∧ ∃ q, w' = w.drewN q := by
  have ht := tmod_fits (x := (x + q * 3) * 251 + y) (N := 30000) (by omega) (by omega)
  obtain ⟨t, ht'⟩ : ∃ t, ((x + q * 3) * 251 + y).tmod 30000 = t := ⟨_, rfl⟩
  rw [ht'] at ht
  have n0 : ¬ (n : Int) = 0 := by omega
  go_enter Try.func28, Try.ntmps28
  go_wp2
  go_quiet (fail)
  go_wp2
  go_ret
  exact ⟨t, rfl, ht.1, ht.2, nq, rfl⟩
theorem at_any {w0 w : World} {v : Value} {n : Nat} {g : Nat → Int} (hb : Below w0.heap.size w0 w) (hB : RdB w0 v n g) (hg : ∀ i, i < n → 0 ≤ g i ∧ g i ≤ 255) (hn : n ≤ 1000000000000) :
    Calls Try.prog 28 #[v, .int .i64 2, .int .i64 30000] w fun e w' => ∃ r : Int, e = .returned (.int .i64 r) ∧ 0 ≤ r ∧ r < 30000 ∧ ∃ q, w' = w.drewN q := by
  rcases hB with ⟨ao, cap, rfl, rfl⟩ | ⟨b, off, cap, rfl, hc⟩
  · exact at_none ao cap w
  · by_cases h0 : n = 0
    · subst h0
      exact at_none _ cap w
    · obtain ⟨i, hi, hr⟩ := rem_nat (a := 2) (n := n) (by omega) (by omega)
      obtain ⟨j, hj, hr2⟩ := rem_nat (a := 3) (n := n) (by omega) (by omega)
      obtain ⟨q, q0, q1, hq⟩ := quo_nat (a := 2) (n := n) (by omega) (by omega)
      exact at_some b off n cap (g i) (g j) q i j w (by omega) hn hi hj hr hr2 hq q0 q1 (hg i hi).1 (hg i hi).2 (hg j hj).1 (hg j hj).2 (RdB.cells hb hc i hi) (RdB.cells hb hc j hj)
end Go.Proofs.Ytbhpdlhmkmkbhaa
