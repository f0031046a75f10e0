/- Bounds of lists of numbers; the faults of lights and plates: both packages. -/
import Derived.Test.YtloebnlmeplgbaaFn
import Derived.Handy
namespace Go.Proofs.Ytloebnlmeplgbaa
open Go.RowKit
set_option linter.unusedVariables false
set_option linter.unusedSimpArgs false
def allIn (m : Int) (f : Nat → Int) : Nat → Bool | 0 => true | k + 1 => allIn m f k && decide (-m ≤ f k ∧ f k ≤ m)
theorem allIn_bad {m : Int} {f : Nat → Int} {k : Nat} (h : ¬ (-m ≤ f k ∧ f k ≤ m)) : ∀ d, allIn m f (k + 1 + d) = false
  | 0 => by simp only [Nat.add_zero, allIn, decide_eq_false h, Bool.and_false]
  | d + 1 => by show (allIn m f (k + 1 + d) && _) = false; rw [allIn_bad h d]; rfl
def bcode (m : Int) (n : Nat) (f : Nat → Int) : Int := if allIn m f n then 0 else 3
theorem bcode_bad {m : Int} {f : Nat → Int} {k n : Nat} (hk : k < n) (h : ¬ (-m ≤ f k ∧ f k ≤ m)) : bcode m n f = 3 := by
  obtain ⟨d, rfl⟩ : ∃ d, n = k + 1 + d := ⟨n - (k + 1), by omega⟩
  simp [bcode, allIn_bad h d]
theorem neg_wrap {m : Int} (h0 : 0 ≤ m) (h1 : m ≤ 1000000000000) : wrap64 (-m) = -m := by unfold wrap64; omega
set_option maxHeartbeats 800000 in
theorem ibounds_some (b off n cap : Nat) (f : Nat → Int) (m : Int) (w : World) (h0 : 0 ≤ m) (h1 : m ≤ 1000000000000) (hn : n ≤ 1000000000000) (hc : ∀ i : Nat, i < n → w.cell? ⟨b, off + i, none⟩ = some (.int .i64 (f i))) :
    Calls Try.prog 79 #[.int .i64 m, .slice (some ⟨b, off, none⟩) n cap] w fun e w' => e = .returned (.int .i64 (bcode m n f)) ∧ w = w' := by
  have hneg := neg_wrap h0 h1
  go_enter Try.func79, Try.ntmps79
  go_wp2_with fail
  go_loopw [9] (fun i wr => wr = w ∧ ∃ k : Nat, k ≤ n ∧ i = .int .i64 k ∧ allIn m f k = true) (fun i _ => n - (intOf i).toNat)
  case atStart => exact ⟨rfl, 0, Nat.zero_le _, rfl, rfl⟩
  case round =>
    obtain ⟨rfl, k, hk, rfl, ha⟩ := hrel
    by_cases hkn : k < n
    · have gk := hc k hkn
      clear hc
      obtain ⟨x, hx⟩ : ∃ x, x = f k := ⟨_, rfl⟩
      rw [← hx] at gk
      by_cases b1 : x < -m
      · go_wp2
        go_ret
        exact ⟨ret_int (bcode_bad hkn (by omega)).symm, rfl⟩
      · by_cases b2 : x > m
        · go_wp2
          go_ret
          exact ⟨ret_int (bcode_bad hkn (by omega)).symm, rfl⟩
        · go_wp2
          go_roundw
          case rel => exact ⟨by trivial, k + 1, by omega, by simp, by simp only [allIn, ha, Bool.true_and]; exact decide_eq_true (by omega)⟩
          case measure => simp [intOf]; omega
    · obtain rfl : k = n := by omega
      clear hc
      go_wp2
      go_ret
      exact ⟨ret_int (by simp [bcode, ha]), rfl⟩
theorem ibounds_none (ao : Option Addr) (cap : Nat) (f : Nat → Int) (m : Int) (w : World) : Calls Try.prog 79 #[.int .i64 m, .slice ao 0 cap] w fun e w' => e = .returned (.int .i64 (bcode m 0 f)) ∧ w = w' := by
  go_enter Try.func79, Try.ntmps79
  go_wp2_with fail
  refine wp_loop_rounds 1 ?_
  rw [rounds_succ]
  go_wp2
  go_ret
  exact ⟨rfl, rfl⟩
theorem ibounds_any {w : World} {v : Value} {n : Nat} {f : Nat → Int} (m : Int) (h : RdRow w v n f) (h0 : 0 ≤ m) (h1 : m ≤ 1000000000000) (hn : n ≤ 1000000000000) :
    Calls Try.prog 79 #[.int .i64 m, v] w fun e w' => e = .returned (.int .i64 (bcode m n f)) ∧ w = w' := by
  rcases h with ⟨ao, cap, rfl, rfl⟩ | ⟨b, off, cap, rfl, h⟩
  · exact ibounds_none ao cap f m w
  · exact ibounds_some b off n cap f m w h0 h1 hn h
def jcode (a b : Gz) : Int := if gin a && gin b then 0 else 3
def pcode (a b c d : Gz) : Int := if gin a && gin b && gin c && gin d then 0 else 3
theorem lt4 {P : Nat → Prop} (h0 : P 0) (h1 : P 1) (h2 : P 2) (h3 : P 3) : ∀ i, i < 4 → P i
  | 0, _ => h0 | 1, _ => h1 | 2, _ => h2 | 3, _ => h3
  | i + 4, h => absurd h (by omega)
theorem lt8 {P : Nat → Prop} (h0 : P 0) (h1 : P 1) (h2 : P 2) (h3 : P 3) (h4 : P 4) (h5 : P 5) (h6 : P 6) (h7 : P 7) : ∀ i, i < 8 → P i
  | 0, _ => h0 | 1, _ => h1 | 2, _ => h2 | 3, _ => h3 | 4, _ => h4 | 5, _ => h5 | 6, _ => h6 | 7, _ => h7
  | i + 8, h => absurd h (by omega)
/-- The i-th number of a light, of a plate. -/
def jnum (a b : Gz) : Nat → Int | 0 => a.re | 1 => a.im | 2 => b.re | _ => b.im
def pnum (a b c d : Gz) : Nat → Int | 0 => a.re | 1 => a.im | 2 => b.re | 3 => b.im | 4 => c.re | 5 => c.im | 6 => d.re | _ => d.im
theorem jcode_is (a b : Gz) : bcode 30000 4 (jnum a b) = jcode a b := by
  unfold bcode jcode
  congr 1
  simp [allIn, jnum, gin]
  omega
theorem pcode_is (a b c d : Gz) : bcode 30000 8 (pnum a b c d) = pcode a b c d := by
  unfold bcode pcode
  congr 1
  simp [allIn, pnum, gin]
  omega
set_option maxRecDepth 20000 in
set_option maxHeartbeats 1600000 in
theorem ijones (a b : Gz) (w : World) : Calls Try.prog 30 #[.agg #[.int .i64 a.re, .int .i64 a.im, .int .i64 b.re, .int .i64 b.im]] w fun e w' => e = .returned (.int .i64 (jcode a b)) ∧ Below w.heap.size w w' := by
  go_enter Try.func30, Try.ntmps30
  go_wp2_with fail
  refine (ibounds_some _ 0 4 4 (jnum a b) 30000 _ (by omega) (by omega) (by omega) (lt4 (by go_simp; rfl) (by go_simp; rfl) (by go_simp; rfl) (by go_simp; rfl))).mono ?_
  rintro e w1 ⟨rfl, rfl⟩
  go_wp2
  go_ret
  exact ⟨ret_int (by rw [jcode_is]), by go_grown⟩
set_option maxRecDepth 20000 in
set_option maxHeartbeats 1600000 in
theorem iplate (a b c d : Gz) (w : World) : Calls Try.prog 33 #[.agg #[.int .i64 a.re, .int .i64 a.im, .int .i64 b.re, .int .i64 b.im, .int .i64 c.re, .int .i64 c.im, .int .i64 d.re, .int .i64 d.im]] w fun e w' => e = .returned (.int .i64 (pcode a b c d)) ∧ Below w.heap.size w w' := by
  go_enter Try.func33, Try.ntmps33
  go_wp2_with fail
  refine (ibounds_some _ 0 8 8 (pnum a b c d) 30000 _ (by omega) (by omega) (by omega) (lt8 (by go_simp; rfl) (by go_simp; rfl) (by go_simp; rfl) (by go_simp; rfl) (by go_simp; rfl) (by go_simp; rfl) (by go_simp; rfl) (by go_simp; rfl))).mono ?_
  rintro e w1 ⟨rfl, rfl⟩
  go_wp2
  go_ret
  exact ⟨ret_int (by rw [pcode_is]), by go_grown⟩
end Go.Proofs.Ytloebnlmeplgbaa
