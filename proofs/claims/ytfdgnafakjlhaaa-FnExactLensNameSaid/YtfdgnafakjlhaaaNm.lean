/- Names of lenses, rune by rune, and the first byte that is no well-formed UTF-8: plain arithmetic. -/
import Derived.Lib.DecodeN
namespace Go.Proofs.Ytfdgnafakjlhaaa
open Go
namespace Nm
def rn (s : ByteArray) (p : Nat) : Nat := (Utf8.decode s p).1
def wd (s : ByteArray) (p : Nat) : Nat := (Utf8.decode s p).2
def isLet (r : Nat) : Bool := decide ((65 ≤ r ∧ r ≤ 90) ∨ (97 ≤ r ∧ r ≤ 122) ∨ (880 ≤ r ∧ r ≤ 1023))
def isDig (r : Nat) : Bool := decide ((48 ≤ r ∧ r ≤ 57) ∨ r = 45)
/-- The rune r at place p may stand in a name. -/
def okAt (p r : Nat) : Bool := isLet r || (decide (p ≠ 0) && isDig r)
def nameF (s : ByteArray) : Nat → Nat → Bool
  | 0, _ => true
  | f + 1, p => if p < s.size then (if okAt p (rn s p) then nameF s f (p + wd s p) else false) else true
def name (s : ByteArray) : Bool := if 1 ≤ s.size ∧ s.size ≤ 40 then nameF s s.size 0 else false
/-- At place p stands no well-formed rune. -/
def bad (s : ByteArray) (p : Nat) : Bool := decide (rn s p = 65533) && !(decide (p + 2 < s.size) && ((s.get! p).toNat == 239 && ((s.get! (p + 1)).toNat == 191 && (s.get! (p + 2)).toNat == 189)))
def wellF (s : ByteArray) : Nat → Nat → Int
  | 0, _ => -1
  | f + 1, p => if p < s.size then (if bad s p then (p : Int) else wellF s f (p + wd s p)) else -1
def well (s : ByteArray) : Int := wellF s s.size 0
theorem decodeN_wd (n b0 b1 b2 b3 : Nat) (hn : 1 ≤ n) : 1 ≤ (Lib.decodeN n b0 b1 b2 b3).2 ∧ (Lib.decodeN n b0 b1 b2 b3).2 ≤ n := by
  unfold Lib.decodeN
  repeat' split
  all_goals simp
  all_goals omega
theorem wd_pos {s : ByteArray} {p : Nat} (h : p < s.size) : 1 ≤ wd s p ∧ p + wd s p ≤ s.size := by
  unfold wd
  rw [Lib.decode_at]
  have := decodeN_wd (s.size - p) (s.get! p).toNat (s.get! (p + 1)).toNat (s.get! (p + 2)).toNat (s.get! (p + 3)).toNat (by omega)
  omega
theorem bad_rn {s : ByteArray} {p : Nat} (h : bad s p = true) : rn s p = 65533 := by
  unfold bad at h
  simp only [Bool.and_eq_true, decide_eq_true_eq] at h
  exact h.1
theorem not_ok (p : Nat) : okAt p 65533 = false := by
  simp [okAt, isLet, isDig]
theorem name_well (s : ByteArray) : ∀ f p, nameF s f p = true → wellF s f p = -1
  | 0, _, _ => rfl
  | f + 1, p, h => by
    unfold nameF at h
    unfold wellF
    by_cases hp : p < s.size
    · rw [if_pos hp] at h ⊢
      by_cases ho : okAt p (rn s p) = true
      · rw [if_pos ho] at h
        by_cases hb : bad s p = true
        · rw [bad_rn hb, not_ok] at ho
          exact absurd ho (by simp)
        · rw [if_neg hb]
          exact name_well s f _ h
      · rw [if_neg ho] at h
        exact absurd h (by simp)
    · rw [if_neg hp]
theorem wellF_rng (s : ByteArray) : ∀ f p, wellF s f p = -1 ∨ 0 ≤ wellF s f p
  | 0, _ => Or.inl rfl
  | f + 1, p => by
    unfold wellF
    by_cases hp : p < s.size
    · rw [if_pos hp]
      by_cases hb : bad s p = true
      · rw [if_pos hb]; right; omega
      · rw [if_neg hb]; exact wellF_rng s f _
    · rw [if_neg hp]; exact Or.inl rfl
theorem name_bad {s : ByteArray} (h : 0 ≤ well s) : name s = false := by
  unfold name
  split
  · cases e : nameF s s.size 0 with
    | false => rfl
    | true =>
      have := name_well s _ _ e
      unfold well at h
      omega
  · rfl
end Nm
end Go.Proofs.Ytfdgnafakjlhaaa
