/- Rows that a light's numbers pass: their faults, products and halves: the program's helpers. -/
import Derived.Test.YtloebnlmeplgbaaSt
import Derived.Test.YtloebnlmeplgbaaToss
import Derived.Test.YtloebnlmeplgbaaLa
import Derived.Handy
namespace Go.Proofs.Ytloebnlmeplgbaa
open Go.RowKit
set_option linter.unusedVariables false
set_option linter.unusedSimpArgs false
def lensOk (L : Nat → Nat) : Nat → Bool | 0 => true | k + 1 => lensOk L k && decide (L k = 4)
def numsOk (F : Rm.Mx) : Nat → Bool | 0 => true | k + 1 => numsOk F k && allIn 100000000 (F k) 4
theorem lens_up {L : Nat → Nat} {k : Nat} (h : lensOk L k = false) : ∀ d, lensOk L (k + d) = false
  | 0 => h
  | d + 1 => by show (lensOk L (k + d) && _) = false; rw [lens_up h d]; rfl
theorem nums_up {F : Rm.Mx} {k : Nat} (h : numsOk F k = false) : ∀ d, numsOk F (k + d) = false
  | 0 => h
  | d + 1 => by show (numsOk F (k + d) && _) = false; rw [nums_up h d]; rfl
theorem lens_bad {L : Nat → Nat} {k n : Nat} (hk : k < n) (h : L k ≠ 4) : lensOk L n = false := by
  obtain ⟨d, rfl⟩ : ∃ d, n = k + 1 + d := ⟨n - (k + 1), by omega⟩
  exact lens_up (by simp [lensOk, h]) d
theorem nums_bad {F : Rm.Mx} {k n : Nat} (hk : k < n) (h : allIn 100000000 (F k) 4 = false) : numsOk F n = false := by
  obtain ⟨d, rfl⟩ : ∃ d, n = k + 1 + d := ⟨n - (k + 1), by omega⟩
  exact nums_up (by simp [numsOk, h]) d
theorem lens_at {L : Nat → Nat} : ∀ n k, k < n → lensOk L n = true → L k = 4
  | 0, k, h, _ => absurd h (Nat.not_lt_zero _)
  | n + 1, k, h, ho => by
    simp only [lensOk, Bool.and_eq_true, decide_eq_true_eq] at ho
    by_cases e : k = n
    · rw [e]; exact ho.2
    · exact lens_at n k (by omega) ho.1
theorem nums_at {F : Rm.Mx} : ∀ n k, k < n → numsOk F n = true → allIn 100000000 (F k) 4 = true
  | 0, k, h, _ => absurd h (Nat.not_lt_zero _)
  | n + 1, k, h, ho => by
    simp only [numsOk, Bool.and_eq_true] at ho
    by_cases e : k = n
    · rw [e]; exact ho.2
    · exact nums_at n k (by omega) ho.1
theorem allIn_at {m : Int} {f : Nat → Int} : ∀ n k, k < n → allIn m f n = true → -m ≤ f k ∧ f k ≤ m
  | 0, k, h, _ => absurd h (Nat.not_lt_zero _)
  | n + 1, k, h, ho => by
    simp only [allIn, Bool.and_eq_true, decide_eq_true_eq] at ho
    by_cases e : k = n
    · rw [e]; exact ho.2
    · exact allIn_at n k (by omega) ho.1
def mcode (n : Nat) (L : Nat → Nat) (F : Rm.Mx) : Int := if n ≠ 4 then 1 else if lensOk L 4 = false then 1 else if numsOk F 4 = false then 3 else 0
theorem row_form {w : World} {v : Value} {n : Nat} {f : Nat → Int} (h : RdRow w v n f) : ∃ ao cap, v = .slice ao n cap := by
  rcases h with ⟨ao, cap, rfl, rfl⟩ | ⟨b, off, cap, rfl, _⟩
  · exact ⟨_, _, rfl⟩
  · exact ⟨_, _, rfl⟩
theorem mat_form {w : World} {v : Value} {n : Nat} {L : Nat → Nat} {F : Rm.Mx} (h : RdMat w v n L F) : ∃ ao cap, v = .slice ao n cap := by
  rcases h with ⟨ao, cap, rfl, rfl⟩ | ⟨b, off, cap, vs, rfl, _⟩
  · exact ⟨_, _, rfl⟩
  · exact ⟨_, _, rfl⟩
theorem imf_len (ao : Option Addr) (n cap : Nat) (w : World) (hn : n ≠ 4) : Calls Try.prog 72 #[.slice ao n cap] w fun e w' => e = .returned (.int .i64 1) ∧ w = w' := by
  have hne : ¬ ((n : Int) = 4) := by omega
  go_enter Try.func72, Try.ntmps72
  go_wp2
  go_ret
  exact ⟨rfl, rfl⟩
set_option maxHeartbeats 1600000 in
theorem imf_some (b off cap : Nat) (vs : Nat → Value) (L : Nat → Nat) (F : Rm.Mx) (w : World) (hc : ∀ i, i < 4 → w.cell? ⟨b, off + i, none⟩ = some (vs i) ∧ RdRow w (vs i) (L i) (F i)) :
    Calls Try.prog 72 #[.slice (some ⟨b, off, none⟩) 4 cap] w fun e w' => e = .returned (.int .i64 (mcode 4 L F)) ∧ w = w' := by
  have HC : Hid (∀ i, i < 4 → w.cell? ⟨b, off + i, none⟩ = some (vs i) ∧ RdRow w (vs i) (L i) (F i)) := hc
  clear hc
  go_enter Try.func72, Try.ntmps72
  go_wp2_with fail
  go_loopw [13] (fun i wr => wr = w ∧ ∃ k : Nat, k ≤ 4 ∧ i = .int .i64 k ∧ lensOk L k = true) (fun i _ => 4 - (intOf i).toNat)
  case atStart => exact ⟨rfl, 0, Nat.zero_le _, rfl, rfl⟩
  case round =>
    obtain ⟨rfl, k, hk, rfl, ha⟩ := hrel
    by_cases hkn : k < 4
    · obtain ⟨g, hr⟩ := HC.out k hkn
      obtain ⟨ao, cp, e⟩ := row_form hr
      rw [e] at g
      clear hr e
      by_cases hl : L k = 4
      · have hlI : ((L k : Nat) : Int) = 4 := by omega
        go_wp2
        go_roundw
        case rel => exact ⟨by trivial, k + 1, by omega, by simp, by simp [lensOk, ha, hl]⟩
        case measure => simp [intOf]; omega
      · have hlI : ¬ (((L k : Nat) : Int) = 4) := by omega
        have hm : Hid (mcode 4 L F = 1) := by show mcode 4 L F = 1; simp [mcode, lens_bad hkn hl]
        go_wp2
        go_ret
        exact ⟨ret_int hm.out.symm, rfl⟩
    · obtain rfl : k = 4 := by omega
      have hL4 : Hid (lensOk L 4 = true) := ha
      clear ha
      obtain ⟨w0, hw0⟩ : ∃ W, W = wr := ⟨_, rfl⟩
      subst hw0
      go_wp2_with fail
      go_loopw [23] (fun i wq => wq = w0 ∧ ∃ k : Nat, k ≤ 4 ∧ i = .int .i64 k ∧ numsOk F k = true) (fun i _ => 4 - (intOf i).toNat)
      case atStart => exact ⟨rfl, 0, Nat.zero_le _, rfl, rfl⟩
      case round =>
        obtain ⟨rfl, k, hk, rfl, ha⟩ := hrel
        by_cases hkn : k < 4
        · obtain ⟨g, hr⟩ := HC.out k hkn
          have HR : Hid (RdRow wr (vs k) 4 (F k)) := by have := lens_at 4 k hkn hL4.out; rw [this] at hr; exact hr
          obtain ⟨ao, cp, e⟩ := row_form HR.out
          rw [e] at g HR
          clear hr e
          have hb : bcode 100000000 4 (F k) = 0 ∨ bcode 100000000 4 (F k) = 3 := by unfold bcode; split <;> simp
          go_wp2_with fail
          refine (ibounds_any 100000000 HR.out (by omega) (by omega) (by omega)).mono ?_
          rintro e w1 ⟨rfl, rfl⟩
          rcases hb with hb | hb
          · rw [hb]
            have hx : Hid (allIn 100000000 (F k) 4 = true) := by
              show allIn 100000000 (F k) 4 = true
              unfold bcode at hb
              split at hb
              · assumption
              · cases hb
            clear g
            go_wp2
            go_roundw
            case rel =>
              (repeat apply Exists.intro)
              exact ⟨⟨by trivial, k + 1, by omega, by simp, by simp [numsOk, ha, hx.out]⟩, rfl⟩
            case measure => simp [intOf]; omega
          · rw [hb]
            have hm : Hid (mcode 4 L F = 3) := by
              show mcode 4 L F = 3
              have hx : allIn 100000000 (F k) 4 = false := by
                unfold bcode at hb
                split at hb
                · cases hb
                · simp_all
              simp [mcode, hL4.out, nums_bad hkn hx]
            clear g
            go_wp2
            go_ret
            exact ⟨ret_int hm.out.symm, rfl⟩
        · obtain rfl : k = 4 := by omega
          have hm : Hid (mcode 4 L F = 0) := by show mcode 4 L F = 0; simp [mcode, hL4.out, ha]
          go_wp2
          go_ret
          exact ⟨ret_int hm.out.symm, rfl⟩
theorem imf_any {w : World} {v : Value} {n : Nat} {L : Nat → Nat} {F : Rm.Mx} (h : RdMat w v n L F) : Calls Try.prog 72 #[v] w fun e w' => e = .returned (.int .i64 (mcode n L F)) ∧ w = w' := by
  by_cases hn : n = 4
  · subst hn
    rcases h with ⟨ao, cap, rfl, h⟩ | ⟨b, off, cap, vs, rfl, hc⟩
    · cases h
    · exact imf_some b off cap vs L F w hc
  · obtain ⟨ao, cap, rfl⟩ := mat_form h
    rw [show mcode n L F = 1 by simp [mcode, hn]]
    exact imf_len ao n cap w hn
/-- Halves: whole ones, and within bounds. -/
def evens (P : Nat → Int) : Nat → Bool | 0 => true | k + 1 => evens P k && decide ((P k).tmod 2 = 0)
theorem evens_up {P : Nat → Int} {k : Nat} (h : evens P k = false) : ∀ d, evens P (k + d) = false
  | 0 => h
  | d + 1 => by show (evens P (k + d) && _) = false; rw [evens_up h d]; rfl
theorem evens_bad {P : Nat → Int} {k n : Nat} (hk : k < n) (h : (P k).tmod 2 ≠ 0) : evens P n = false := by
  obtain ⟨d, rfl⟩ : ∃ d, n = k + 1 + d := ⟨n - (k + 1), by omega⟩
  exact evens_up (by simp [evens, h]) d
def hv (P : Nat → Int) (i : Nat) : Int := (P i).tdiv 2
def hcode (P : Nat → Int) : Int := if evens P 4 = false then 1 else bcode 2000000000 4 (hv P)
def hsk (P : Nat → Int) : Sk := if hcode P = 0 then ⟨hv P 0, hv P 1, hv P 2, hv P 3⟩ else ⟨0, 0, 0, 0⟩
theorem idx4 (P : Nat → Int) {k : Nat} (hk : k < 4) (w : World) : (Instr.index 105 (.agg #[.int .i64 (P 0), .int .i64 (P 1), .int .i64 (P 2), .int .i64 (P 3)]) (.int .i64 (k : Int))).run Try.prog w = .ok (.int .i64 (P k)) w := by
  match k, hk with
  | 0, _ => simp [Instr.index, run_underlying Try.underlying105, asInt, asIntOf, go_sem]
  | 1, _ => simp [Instr.index, run_underlying Try.underlying105, asInt, asIntOf, go_sem]
  | 2, _ => simp [Instr.index, run_underlying Try.underlying105, asInt, asIntOf, go_sem]
  | 3, _ => simp [Instr.index, run_underlying Try.underlying105, asInt, asIntOf, go_sem]
end Go.Proofs.Ytloebnlmeplgbaa
