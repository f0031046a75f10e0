/- Scrambling, plainly: the register, the bits that are turned. -/
import Derived.Test.YtdknclkecbdpgaaDoorCp
namespace Go.Proofs.YtdknclkecbdpgaaDoor
open Go
set_option linter.unusedVariables false
def ul (r : Int) : Int := (r + r / 2) % 2
theorem ul_01 (r : Int) : ul r = 0 ∨ ul r = 1 := by unfold ul; omega
theorem nat_ul (r : Nat) : (r ^^^ (r / 2)) &&& 1 = (r + r / 2) % 2 := by
  rw [Nat.and_one_is_mod]
  generalize r / 2 = q
  have h : (r ^^^ q) % 2 = (r % 2) ^^^ (q % 2) := by rw [← Nat.pow_one 2]; exact Nat.xor_mod_two_pow
  rw [h]
  rcases Nat.mod_two_eq_zero_or_one r with a | a <;> rcases Nat.mod_two_eq_zero_or_one q with b | b <;> rw [a, b] <;> simp <;> omega
/-- The program's word for it. -/
theorem ul_bits {r : Int} (h0 : 0 ≤ r) (h1 : r < 65536) : bits .and .i64 (bits .xor .i64 r (r / 2)) 1 = ul r := by
  obtain ⟨x, rfl⟩ := Int.eq_ofNat_of_zero_le h0
  have e : ((x : Int) / 2) = ((x / 2 : Nat) : Int) := by omega
  have hx := xo_nat x (x / 2) (by omega) (by omega)
  have hb := Nat.xor_lt_two_pow (n := 16) (x := x) (y := x / 2) (by omega) (by omega)
  rw [e]
  unfold xo at hx
  rw [hx]
  show IntKind.i64.wrap ((BitVec.ofInt 64 ((x ^^^ (x / 2) : Nat) : Int) &&& BitVec.ofInt 64 ((1 : Nat) : Int)).toNat : Int) = _
  rw [BitVec.toNat_and, ofInt_u64 _ (by omega), ofInt_u64 1 (by omega), nat_ul]
  unfold ul
  simp only [IntKind.wrap, IntKind.bits, IntKind.signed]
  simp
  omega
/-- The register behind k bits. -/
def sr (s : Int) : Nat → Int
  | 0 => s
  | k + 1 => sr s k / 2 + ul (sr s k) * 16384
theorem sr_bd {s : Int} (h0 : 0 ≤ s) (h1 : s < 32768) : ∀ k, 0 ≤ sr s k ∧ sr s k < 32768
  | 0 => ⟨h0, h1⟩
  | k + 1 => by have := sr_bd h0 h1 k; have := ul_01 (sr s k); unfold sr; omega
theorem sr_add (s : Int) (n : Nat) : ∀ k, sr (sr s n) k = sr s (n + k)
  | 0 => rfl
  | k + 1 => by show sr (sr s n) k / 2 + ul (sr (sr s n) k) * 16384 = _; rw [sr_add s n k]; rfl
/-- The bits that are turned, of the first k. -/
def tn (s : Int) : Nat → Int
  | 0 => 0
  | k + 1 => tn s k * 2 + ul (sr s k)
theorem tn_bd (s : Int) : ∀ k, 0 ≤ tn s k ∧ tn s k < 2 ^ k
  | 0 => by simp [tn]
  | k + 1 => by
    have := tn_bd s k
    have := ul_01 (sr s k)
    have e : (2 : Int) ^ (k + 1) = 2 ^ k * 2 := Int.pow_succ _ _
    unfold tn
    omega
abbrev x8 (a b : Int) : Int := bits .xor .u8 a b
theorem x8_bd (a b : Int) : 0 ≤ x8 a b ∧ x8 a b < 256 := by
  unfold x8 bits
  rw [IntKind.wrap_u8']
  omega
theorem x8_zero {b : Int} (h0 : 0 ≤ b) (h1 : b < 256) : x8 b 0 = b := by
  have := u8_xor b 0 h0 h1 (by omega) (by omega)
  unfold x8
  rw [this]
  simp
  omega
/-- The byte when its first k bits are done. -/
def xb (s b : Int) (k : Nat) : Int := x8 b (tn s k * 2 ^ (8 - k))
theorem step_tab : ∀ k : Fin 8, ∀ t : Fin (2 ^ k.val), (t.val * 2 ^ (8 - k.val)) ^^^ (2 ^ (8 - (k.val + 1))) = (t.val * 2 + 1) * 2 ^ (8 - (k.val + 1)) := by decide +kernel
theorem xb_zero {s b : Int} (h0 : 0 ≤ b) (h1 : b < 256) : xb s b 0 = b := by unfold xb tn; rw [Int.zero_mul]; exact x8_zero h0 h1
theorem xb_same {s b : Int} {k : Nat} (hk : k < 8) (h : ul (sr s k) = 0) : xb s b (k + 1) = xb s b k := by
  unfold xb
  congr 1
  show (tn s k * 2 + ul (sr s k)) * 2 ^ (8 - (k + 1)) = _
  rw [h, Int.add_zero, Int.mul_assoc]
  congr 1
  rw [show 8 - k = (8 - (k + 1)) + 1 by omega, Int.pow_succ, Int.mul_comm]
theorem xb_turn {s b : Int} (h0 : 0 ≤ b) (h1 : b < 256) {k : Nat} (hk : k < 8) (h : ul (sr s k) = 1) : x8 (xb s b k) (2 ^ (8 - (k + 1)) : Nat) = xb s b (k + 1) := by
  obtain ⟨t, ht⟩ : ∃ t : Nat, (t : Int) = tn s k := ⟨(tn s k).toNat, by have := tn_bd s k; omega⟩
  obtain ⟨c, rfl⟩ := Int.eq_ofNat_of_zero_le h0
  have hb := tn_bd s k
  rw [← ht] at hb
  have htk : t < 2 ^ k := by
    have := hb.2
    have e : ((2 ^ k : Nat) : Int) = 2 ^ k := by simp
    omega
  have hp : t * 2 ^ (8 - k) < 256 := by
    have h2 : t * 2 ^ (8 - k) < 2 ^ k * 2 ^ (8 - k) := Nat.mul_lt_mul_of_pos_right htk (Nat.pos_of_ne_zero (by simp))
    rw [← Nat.pow_add, show k + (8 - k) = 8 by omega] at h2
    exact h2
  have hp2 : (t * 2 + 1) * 2 ^ (8 - (k + 1)) < 256 := by
    have h2 : (t * 2 + 1) * 2 ^ (8 - (k + 1)) < 2 ^ (k + 1) * 2 ^ (8 - (k + 1)) := Nat.mul_lt_mul_of_pos_right (by rw [Nat.pow_succ]; omega) (Nat.pos_of_ne_zero (by simp))
    rw [← Nat.pow_add, show k + 1 + (8 - (k + 1)) = 8 by omega] at h2
    exact h2
  have hq : 2 ^ (8 - (k + 1)) < 256 := by
    have : 2 ^ (8 - (k + 1)) ≤ 2 ^ 7 := Nat.pow_le_pow_right (by omega) (by omega)
    omega
  have e1 : xb s (c : Int) k = ((c ^^^ t * 2 ^ (8 - k) : Nat) : Int) := by
    unfold xb x8
    rw [← ht]
    have := u8_xor_nat c (t * 2 ^ (8 - k)) (by omega) hp
    simpa using this
  have e2 : xb s (c : Int) (k + 1) = ((c ^^^ (t * 2 + 1) * 2 ^ (8 - (k + 1)) : Nat) : Int) := by
    unfold xb x8 tn
    rw [← ht, h]
    have := u8_xor_nat c ((t * 2 + 1) * 2 ^ (8 - (k + 1))) (by omega) hp2
    simpa using this
  have hl : (c ^^^ t * 2 ^ (8 - k)) < 256 := Nat.xor_lt_two_pow (n := 8) (by omega) hp
  rw [e1, e2]
  unfold x8
  rw [u8_xor_nat _ _ hl hq, Nat.xor_assoc, step_tab ⟨k, hk⟩ ⟨t, htk⟩]
theorem xb_end {s b : Int} : xb s b 8 = x8 b (tn s 8) := by unfold xb; simp
end Go.Proofs.YtdknclkecbdpgaaDoor
