/- What an unwrapped map holds, plainly; how far a walk row by row has come. -/
import Derived.Test.YtbagaicbochmnaaBk
namespace Go.Proofs.Ytbagaicbochmnaa
open Go.RowKit
set_option linter.unusedVariables false
/-- The unwrapped map: the first column as a row, then each row on. -/
def uwm (F : Rm.Mx) (i j : Nat) : Int := goOn (unw (fun r => F r 0) i) (F i) j
theorem wrap_wph (p : Int) : wrap64 (wph p) = wph p := by
  have := wph_lo p
  have := wph_hi p
  unfold wrap64
  omega
/-- What the place's number becomes, out of the number ahead. -/
def nxt (F A : Rm.Mx) (i j : Nat) : Int := wrap64 (A (ahd i j).1 (ahd i j).2 + wst (F (ahd i j).1 (ahd i j).2) (F i j))
structure DoneTo (F : Rm.Mx) (n m k : Nat) (A : Rm.Mx) : Prop where
  val : ∀ i j, i < n → j < m → i * m + j < k → A i j = uwm F i j
  ini : k = 0 → A 0 0 = wph (F 0 0)
theorem nxt_is {F A : Rm.Mx} {n m k : Nat} (h : DoneTo F n m k A) {i j : Nat} (hi : i < n) (hj : j < m) (hk : i * m + j = k) : nxt F A i j = uwm F i j := by
  unfold nxt
  by_cases h0 : 0 < j
  · have e : ahd i j = (i, j - 1) := by simp [ahd, h0]
    rw [e]
    obtain ⟨q, rfl⟩ : ∃ q, j = q + 1 := ⟨j - 1, by omega⟩
    rw [show q + 1 - 1 = q by omega]
    show wrap64 (A i q + wst (F i q) (F i (q + 1))) = _
    rw [h.val i q hi (by omega) (by omega)]
    rfl
  · obtain rfl : j = 0 := by omega
    have e : ahd i 0 = (i - 1, 0) := by simp [ahd]
    rw [e]
    cases i with
    | zero =>
      show wrap64 (A 0 0 + wst (F 0 0) (F 0 0)) = _
      rw [wst_self, Int.add_zero, h.ini (by omega), wrap_wph]
      rfl
    | succ r =>
      show wrap64 (A r 0 + wst (F r 0) (F (r + 1) 0)) = _
      rw [h.val r 0 (by omega) hj (by rw [Nat.succ_mul] at hk; omega)]
      rfl
theorem done_step {F A : Rm.Mx} {n m k : Nat} (h : DoneTo F n m k A) {i j : Nat} (hi : i < n) (hj : j < m) (hk : i * m + j = k) : DoneTo F n m (k + 1) (fun a c => if a = i ∧ c = j then nxt F A i j else A a c) := by
  refine ⟨fun a c ha hc hl => ?_, fun h => absurd h (by omega)⟩
  by_cases e : a = i ∧ c = j
  · obtain ⟨rfl, rfl⟩ := e
    rw [if_pos ⟨rfl, rfl⟩]
    exact nxt_is h ha hc hk
  · rw [if_neg e]
    refine h.val a c ha hc ?_
    have : a * m + c ≠ k := by
      intro he
      rw [← hk] at he
      have h1 := plc_at (i := a) hc
      have h2 := plc_at (i := i) hj
      rw [he] at h1
      exact e ⟨by rw [← h1.1, h2.1], by rw [← h1.2, h2.2]⟩
    omega
theorem done_all {F A : Rm.Mx} {n m : Nat} (h : DoneTo F n m (n * m) A) {i j : Nat} (hi : i < n) (hj : j < m) : A i j = uwm F i j := by
  refine h.val i j hi hj ?_
  have : (i + 1) * m ≤ n * m := Nat.mul_le_mul_right m hi
  rw [Nat.succ_mul] at this
  omega
/-- The last place of a way row by row. -/
theorem plcs_snoc {m k : Nat} {L : List (Nat × Nat)} {p : Nat × Nat} (h : L ++ [p] = plcs m (k + 1)) : L = plcs m k ∧ p = (k / m, k % m) := by
  rw [plcs_succ] at h
  have := List.append_inj' h rfl
  exact ⟨this.1, by simpa using this.2⟩
end Go.Proofs.Ytbagaicbochmnaa
