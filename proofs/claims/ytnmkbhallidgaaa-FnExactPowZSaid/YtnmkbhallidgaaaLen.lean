/- How many binary digits a number has: the library's Len64 at numbers below 2^24. -/
import Derived.Test.YtnmkbhallidgaaaZn
import Derived.Lib.Tables
namespace Go.Proofs.Ytnmkbhallidgaaa
open Go.RowKit Fl
set_option linter.unusedVariables false
theorem len8_all : ∀ i : Fin 256, ∃ l : Fin 9, Lib.len8 (i.val : Int) = (l.val : Int) ∧ i.val < 2 ^ l.val ∧ (0 < l.val → 2 ^ (l.val - 1) ≤ i.val) := by decide +kernel
theorem len8_spec {x : Nat} (h : x < 256) : ∃ l : Nat, Lib.len8 (x : Int) = l ∧ l ≤ 8 ∧ x < 2 ^ l ∧ (0 < l → 2 ^ (l - 1) ≤ x) := by
  obtain ⟨l, h1, h2, h3⟩ := len8_all ⟨x, h⟩
  exact ⟨l.val, h1, by omega, h2, h3⟩
/-- D is the number of n's digits. -/
def Digits (n D : Nat) : Prop := n < 2 ^ D ∧ (0 < D → 2 ^ (D - 1) ≤ n)
theorem digits_up {n k l : Nat} (h : n / 2 ^ k < 2 ^ l) (h2 : 0 < l → 2 ^ (l - 1) ≤ n / 2 ^ k) (h0 : 0 < n / 2 ^ k) : Digits n (k + l) := by
  have hp : 0 < 2 ^ k := Nat.pow_pos (by omega)
  constructor
  · rw [Nat.pow_add, Nat.mul_comm]
    exact (Nat.div_lt_iff_lt_mul hp).1 h
  · intro _
    have hl : 0 < l := by
      rcases Nat.eq_zero_or_pos l with e | e
      · subst e; rw [Nat.pow_zero] at h; omega
      · exact e
    have := h2 hl
    rw [show k + l - 1 = (l - 1) + k by omega, Nat.pow_add]
    exact (Nat.le_div_iff_mul_le hp).1 this
set_option maxRecDepth 100000 in
theorem len_small {x : Nat} {X : Int} (hX : X = x) (h0 : 0 ≤ X) (h1 : X < 256) (w : World) : Calls Try.prog 76 #[.int .u64 X] w fun e w' => ∃ D : Nat, e = .returned (.int .i64 D) ∧ Digits x D ∧ D ≤ 24 ∧ w = w' := by
  obtain ⟨l, hl, h8, a1, a2⟩ := len8_spec (x := x) (by omega)
  have H : Hid (Digits x l) := ⟨a1, a2⟩
  have hl' : Lib.len8 (X) = l := by
    rw [← hl, hX]
  obtain ⟨L, hL⟩ : ∃ L : Int, L = l := ⟨_, rfl⟩
  rw [← hL] at hl'
  have hL0 : 0 ≤ L := by omega
  have hL8 : L ≤ 8 := by omega
  have HL : Hid (L = l ∧ l ≤ 8) := ⟨hL, h8⟩
  have b0 : 0 ≤ X := by omega
  have b1 : X ≤ 255 := by omega
  clear a1 a2 hl hX hL h8
  go_enter Try.func76, Try.ntmps76
  go_wp2
  go_ret
  exact ⟨l, by have := HL.out.1; first | (rw [this]; simp; done) | (congr 2; omega), H.out, by have := HL.out.2; omega, rfl⟩
set_option maxRecDepth 100000 in
theorem len_mid {x : Nat} {X : Int} (hX : X = x) (h0 : 256 ≤ X) (h1 : X < 65536) (w : World) : Calls Try.prog 76 #[.int .u64 X] w fun e w' => ∃ D : Nat, e = .returned (.int .i64 D) ∧ Digits x D ∧ D ≤ 24 ∧ w = w' := by
  obtain ⟨l, hl, h8, a1, a2⟩ := len8_spec (x := x / 256) (by omega)
  have H : Hid (Digits x (8 + l)) := digits_up (k := 8) a1 a2 (by show 0 < x / 256; omega)
  have hl' : Lib.len8 (X / 256) = l := by
    rw [← hl, hX]; rfl
  obtain ⟨L, hL⟩ : ∃ L : Int, L = l := ⟨_, rfl⟩
  rw [← hL] at hl'
  have hL0 : 0 ≤ L := by omega
  have hL8 : L ≤ 8 := by omega
  have HL : Hid (L = l ∧ l ≤ 8) := ⟨hL, h8⟩
  have b0 : 0 ≤ X / 256 := by omega
  have b1 : X / 256 ≤ 255 := by omega
  clear a1 a2 hl hX hL h8
  go_enter Try.func76, Try.ntmps76
  go_wp2
  go_ret
  exact ⟨8 + l, by have := HL.out.1; first | (rw [this]; simp; done) | (congr 2; omega), H.out, by have := HL.out.2; omega, rfl⟩
set_option maxRecDepth 100000 in
theorem len_high {x : Nat} {X : Int} (hX : X = x) (h0 : 65536 ≤ X) (h1 : X < 16777216) (w : World) : Calls Try.prog 76 #[.int .u64 X] w fun e w' => ∃ D : Nat, e = .returned (.int .i64 D) ∧ Digits x D ∧ D ≤ 24 ∧ w = w' := by
  obtain ⟨l, hl, h8, a1, a2⟩ := len8_spec (x := x / 65536) (by omega)
  have H : Hid (Digits x (16 + l)) := digits_up (k := 16) a1 a2 (by show 0 < x / 65536; omega)
  have hl' : Lib.len8 (X / 65536) = l := by
    rw [← hl, hX]; rfl
  obtain ⟨L, hL⟩ : ∃ L : Int, L = l := ⟨_, rfl⟩
  rw [← hL] at hl'
  have hL0 : 0 ≤ L := by omega
  have hL8 : L ≤ 8 := by omega
  have HL : Hid (L = l ∧ l ≤ 8) := ⟨hL, h8⟩
  have b0 : 0 ≤ X / 65536 := by omega
  have b1 : X / 65536 ≤ 255 := by omega
  clear a1 a2 hl hX hL h8
  go_enter Try.func76, Try.ntmps76
  go_wp2
  go_ret
  exact ⟨16 + l, by have := HL.out.1; first | (rw [this]; simp; done) | (congr 2; omega), H.out, by have := HL.out.2; omega, rfl⟩
theorem len_any {x : Nat} {X : Int} (hX : X = x) (h1 : x < 16777216) (w : World) : Calls Try.prog 76 #[.int .u64 X] w fun e w' => ∃ D : Nat, e = .returned (.int .i64 D) ∧ Digits x D ∧ D ≤ 24 ∧ w = w' := by
  by_cases h : x < 256
  · exact len_small hX (by omega) (by omega) w
  · by_cases h2 : x < 65536
    · exact len_mid hX (by omega) (by omega) w
    · exact len_high hX (by omega) (by omega) w
end Go.Proofs.Ytnmkbhallidgaaa
