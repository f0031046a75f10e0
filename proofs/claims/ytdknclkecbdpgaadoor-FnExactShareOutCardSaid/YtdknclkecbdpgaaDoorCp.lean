/- The sum of bytes, plainly: exclusive or, a step, eight steps, all bytes. -/
import Derived.Laws.BitsAllLaws
namespace Go.Proofs.YtdknclkecbdpgaaDoor
open Go
set_option linter.unusedVariables false
abbrev xo (a b : Int) : Int := bits .xor .i64 a b
theorem xo_nat (a b : Nat) (ha : a < 65536) (hb : b < 65536) : xo a b = ((a ^^^ b : Nat) : Int) := by
  have h := Nat.xor_lt_two_pow (n := 16) (x := a) (y := b) (by omega) (by omega)
  show IntKind.i64.wrap ((BitVec.ofInt 64 (a : Int) ^^^ BitVec.ofInt 64 (b : Int)).toNat : Int) = _
  rw [BitVec.toNat_xor, ofInt_u64 a (by omega), ofInt_u64 b (by omega)]
  simp only [IntKind.wrap, IntKind.bits, IntKind.signed]
  simp
  omega
theorem xo_bd {a b : Int} (a0 : 0 ≤ a) (a1 : a < 65536) (b0 : 0 ≤ b) (b1 : b < 65536) : 0 ≤ xo a b ∧ xo a b < 65536 := by
  obtain ⟨x, rfl⟩ := Int.eq_ofNat_of_zero_le a0
  obtain ⟨y, rfl⟩ := Int.eq_ofNat_of_zero_le b0
  rw [xo_nat x y (by omega) (by omega)]
  have h := Nat.xor_lt_two_pow (n := 16) (x := x) (y := y) (by omega) (by omega)
  omega
/-- One of the eight steps. -/
def st (s : Int) : Int := if 65536 ≤ 2 * s then xo (2 * s - 65536) 4129 else 2 * s
theorem st_bd {s : Int} (h0 : 0 ≤ s) (h1 : s < 65536) : 0 ≤ st s ∧ st s < 65536 := by
  unfold st
  split
  · exact xo_bd (by omega) (by omega) (by omega) (by omega)
  · omega
def it (s : Int) : Nat → Int
  | 0 => s
  | k + 1 => st (it s k)
theorem it_bd {s : Int} (h0 : 0 ≤ s) (h1 : s < 65536) : ∀ k, 0 ≤ it s k ∧ it s k < 65536
  | 0 => ⟨h0, h1⟩
  | k + 1 => st_bd (it_bd h0 h1 k).1 (it_bd h0 h1 k).2
def cs (F : Nat → Int) : Nat → Int
  | 0 => 65535
  | k + 1 => it (xo (cs F k) (F k * 256)) 8
/-- Bytes. -/
def By (n : Nat) (F : Nat → Int) : Prop := ∀ i, i < n → 0 ≤ F i ∧ F i < 256
theorem cs_bd {F : Nat → Int} {n : Nat} (h : By n F) : ∀ k, k ≤ n → 0 ≤ cs F k ∧ cs F k < 65536
  | 0, _ => by simp [cs]
  | k + 1, hk => by
    have a := cs_bd h k (by omega)
    have b := h k (by omega)
    have c := xo_bd a.1 a.2 (show 0 ≤ F k * 256 by omega) (by omega)
    exact it_bd c.1 c.2 8
theorem cs_congr {F G : Nat → Int} : ∀ {n : Nat}, (∀ i, i < n → F i = G i) → cs F n = cs G n
  | 0, _ => rfl
  | n + 1, h => by
    show it (xo (cs F n) (F n * 256)) 8 = it (xo (cs G n) (G n * 256)) 8
    rw [cs_congr (n := n) fun i hi => h i (by omega), h n (by omega)]
end Go.Proofs.YtdknclkecbdpgaaDoor
