/- Frames read: pairs of bytes, and what is ahead, of the program. -/
import Derived.Test.YtdknclkecbdpgaaDoorLs
import Derived.Test.YtdknclkecbdpgaaDoorSp
import Derived.Test.YtdknclkecbdpgaaDoorWx
namespace Go.Proofs.YtdknclkecbdpgaaDoor
open Go.RowKit
set_option linter.unusedVariables false
set_option linter.unusedSimpArgs false
theorem wr64' {x : Int} (h0 : -9223372036854775808 ≤ x) (h1 : x < 9223372036854775808) : IntKind.i64.wrap x = x := by
  simp only [IntKind.wrap, IntKind.bits, IntKind.signed]
  simp
  omega
/-- A number of two bytes. -/
def two (F : Nat → Int) (a : Nat) : Int := F a * 256 + F (a + 1)
theorem or256 {x y : Int} (h0 : 0 ≤ x) (h1 : x < 256) (h2 : 0 ≤ y) (h3 : y < 256) : bits .or .i64 (x * 256) y = x * 256 + y := by
  obtain ⟨a, rfl⟩ := Int.eq_ofNat_of_zero_le h0
  obtain ⟨b, rfl⟩ := Int.eq_ofNat_of_zero_le h2
  have e : ((a : Int) * 256) = ((a * 256 : Nat) : Int) := by omega
  rw [e]
  show IntKind.i64.wrap ((BitVec.ofInt 64 ((a * 256 : Nat) : Int) ||| BitVec.ofInt 64 (b : Int)).toNat : Int) = _
  rw [BitVec.toNat_or, ofInt_u64 _ (by omega), ofInt_u64 _ (by omega), nat_join 8 (a * 256) b (by omega) (by omega)]
  simp only [IntKind.wrap, IntKind.bits, IntKind.signed]
  simp
  omega
set_option maxHeartbeats 1600000 in
theorem iTwo_any {w : World} {b off n cap a : Nat} {F : Nat → Int} (hc : ∀ i, i < n → w.cell? ⟨b, off + i, none⟩ = some (.int .u8 (F i))) (hF : By n F) (ha : a + 1 < n) (hn : n ≤ 100000) :
    Calls Tryd.prog 130 #[.slice (some ⟨b, off, none⟩) n cap, .int .i64 (a : Int)] w fun e w' => e = .returned (.int .i64 (two F a)) ∧ ∃ q, w' = w.drewN q := by
  have g0 := hc a (by omega)
  have g1 := hc (a + 1) ha
  obtain ⟨p0, p1⟩ := hF a (by omega)
  obtain ⟨q0, q1⟩ := hF (a + 1) ha
  have hT : two F a = F a * 256 + F (a + 1) := rfl
  obtain ⟨x, hx⟩ : ∃ x, x = F a := ⟨_, rfl⟩
  obtain ⟨y, hy⟩ : ∃ y, y = F (a + 1) := ⟨_, rfl⟩
  rw [← hx] at g0 p0 p1 hT
  rw [← hy] at g1 q0 q1 hT
  have HT : Hid (two F a = x * 256 + y) := hT
  rw [hT]
  clear hx hy hc hF hT
  have ho := or256 p0 p1 q0 q1
  have hi1 : (a : Int) < n := by omega
  have hi2 : (a : Int) + 1 < n := by omega
  have hi3 : (0 : Int) ≤ (a : Int) + 1 := by omega
  have hw1 : IntKind.i64.wrap ((a : Int) + 1) = (a : Int) + 1 := wr64' (by omega) (by omega)
  have hw2 : IntKind.i64.wrap (x * 256) = x * 256 := wr64' (by omega) (by omega)
  have hw3 : IntKind.i64.wrap (x * 256 + y) = x * 256 + y := wr64' (by omega) (by omega)
  go_enter Tryd.func130, Tryd.ntmps130
  go_wp2
  go_quiet (fail)
  go_wp2
  go_ret
  exact ⟨by first | rfl | (simp; done) | (simp; omega), _, rfl⟩
set_option maxHeartbeats 1600000 in
theorem sTwo_any {w : World} {b off n cap a : Nat} {F : Nat → Int} (hc : ∀ i, i < n → w.cell? ⟨b, off + i, none⟩ = some (.int .u8 (F i))) (hF : By n F) (ha : a + 1 < n) (hn : n ≤ 100000) :
    Calls Tryd.prog 96 #[.slice (some ⟨b, off, none⟩) n cap, .int .i64 (a : Int)] w fun e w' => e = .returned (.int .i64 (two F a)) ∧ ∃ q, w' = w.drewN q := by
  have g0 := hc a (by omega)
  have g1 := hc (a + 1) ha
  obtain ⟨p0, p1⟩ := hF a (by omega)
  obtain ⟨q0, q1⟩ := hF (a + 1) ha
  have hT : two F a = F a * 256 + F (a + 1) := rfl
  obtain ⟨x, hx⟩ : ∃ x, x = F a := ⟨_, rfl⟩
  obtain ⟨y, hy⟩ : ∃ y, y = F (a + 1) := ⟨_, rfl⟩
  rw [← hx] at g0 p0 p1 hT
  rw [← hy] at g1 q0 q1 hT
  have HT : Hid (two F a = x * 256 + y) := hT
  rw [hT]
  clear hx hy hc hF hT
  have ho := or256 p0 p1 q0 q1
  have hi1 : (a : Int) < n := by omega
  have hi2 : (a : Int) + 1 < n := by omega
  have hi3 : (0 : Int) ≤ (a : Int) + 1 := by omega
  have hw1 : IntKind.i64.wrap ((a : Int) + 1) = (a : Int) + 1 := wr64' (by omega) (by omega)
  have hw2 : IntKind.i64.wrap (x * 256) = x * 256 := wr64' (by omega) (by omega)
  have hw3 : IntKind.i64.wrap (x * 256 + y) = x * 256 + y := wr64' (by omega) (by omega)
  go_enter Tryd.func96, Tryd.ntmps96
  go_wp2
  go_quiet (fail)
  go_wp2
  go_ret
  exact ⟨by first | rfl | (simp; done) | (simp; omega), _, rfl⟩
end Go.Proofs.YtdknclkecbdpgaaDoor
