/- Four bits and their parities, of both packages. -/
import Derived.Test.YtdknclkecbdpgaaDoorLs
import Derived.Test.YtdknclkecbdpgaaDoorSp
namespace Go.Proofs.YtdknclkecbdpgaaDoor
open Go.RowKit
set_option linter.unusedVariables false
set_option linter.unusedSimpArgs false
/-- The parity of eight bits. -/
def pt (b : Int) : Int := (b % 2 + b / 2 % 2 + b / 4 % 2 + b / 8 % 2 + b / 16 % 2 + b / 32 % 2 + b / 64 % 2 + b / 128 % 2) % 2
theorem pt_01 (b : Int) : 0 ≤ pt b ∧ pt b < 2 := by unfold pt; omega
theorem u8_bd (op : BinOp) (a b : Int) : 0 ≤ bits op .u8 a b ∧ bits op .u8 a b < 256 := by
  unfold bits
  rw [IntKind.wrap_u8']
  omega
/-- Four bits coded. -/
def hm (d1 d2 d3 d4 : Int) : Int := (d1 + d2 + d4) % 2 * 128 + (d1 + d3 + d4) % 2 * 64 + d1 * 32 + (d2 + d3 + d4) % 2 * 16 + d2 * 8 + d3 * 4 + d4 * 2 + ((d1 + d2 + d4) % 2 + (d1 + d3 + d4) % 2 + d1 + (d2 + d3 + d4) % 2 + d2 + d3 + d4) % 2
def hc (x : Int) : Int := hm (x / 8 % 2) (x / 4 % 2) (x / 2 % 2) (x % 2)
theorem fin256 {b : Int} (h0 : 0 ≤ b) (h1 : b < 256) : ∃ i : Fin 256, b = ((i.val : Nat) : Int) := ⟨⟨b.toNat, by omega⟩, by simp; omega⟩
theorem fin16 {b : Int} (h0 : 0 ≤ b) (h1 : b < 16) : ∃ i : Fin 16, b = ((i.val : Nat) : Int) := ⟨⟨b.toNat, by omega⟩, by simp; omega⟩
/-- The program's seven bits, and all eight. -/
def svn (x p1 p2 p3 : Int) : Int := bits .or .u8 (bits .or .u8 (bits .or .u8 (bits .or .u8 (p1 * 128) (p2 * 64)) (p3 * 16)) (bits .and .u8 x 8 * 4 % 256)) (x % 8 * 2)
def sv (x : Int) : Int := svn x (pt (bits .and .u8 x 13)) (pt (bits .and .u8 x 11)) (pt (x % 8))
theorem cod_eq : ∀ i : Fin 16, bits .or .u8 (sv ((i.val : Nat) : Int)) (pt (sv ((i.val : Nat) : Int))) = hc ((i.val : Nat) : Int) := by decide +kernel
theorem cod_is {x : Int} (h0 : 0 ≤ x) (h1 : x < 16) : bits .or .u8 (sv x) (pt (sv x)) = hc x := by
  obtain ⟨i, rfl⟩ := fin16 h0 h1
  exact cod_eq i
set_option maxRecDepth 20000 in
set_option maxHeartbeats 3200000 in
theorem par_any {b : Int} (h0 : 0 ≤ b) (h1 : b < 256) (w : World) : Calls Tryd.prog 131 #[.int .u8 b] w fun e w' => e = .returned (.int .u8 (pt b)) ∧ w' = w := by
  have H : Hid (∀ W, Calls Tryd.prog 142 #[.int .u8 b] W fun e w' => ∃ q : Int, e = .returned (.int .i64 q) ∧ Hid (q % 2 = pt b) ∧ 0 ≤ q ∧ q < 9 ∧ w' = W) := fun W => by
    obtain ⟨i, rfl⟩ := fin256 h0 h1
    go_enter Tryd.func142, Tryd.ntmps142
    go_wp2
    go_ret
    refine ⟨_, rfl, ?_, ?_, ?_, rfl⟩
    · show _ = _
      revert i
      decide +kernel
    · revert i
      decide +kernel
    · revert i
      decide +kernel
  have hp := pt_01 b
  obtain ⟨p, hpe⟩ : ∃ p, p = pt b := ⟨_, rfl⟩
  rw [← hpe] at H hp ⊢
  clear hpe
  go_enter Tryd.func131, Tryd.ntmps131
  go_wp2_with fail
  refine Calls.mono (H.out _) ?_
  rintro e w1 ⟨q, rfl, hq, q0, q1, rfl⟩
  have t1 : q.tmod 2 = p := by rw [Int.tmod_eq_emod_of_nonneg q0]; exact hq.out
  have t2 : q % 2 = p := hq.out
  go_wp2
  go_ret
  exact ⟨rfl, rfl⟩
set_option maxRecDepth 20000 in
set_option maxHeartbeats 3200000 in
theorem coded_any {x : Int} (h0 : 0 ≤ x) (h1 : x < 16) (w : World) : Calls Tryd.prog 104 #[.int .u8 x] w fun e w' => e = .returned (.int .u8 (hc x)) ∧ w' = w := by
  go_enter Tryd.func104, Tryd.ntmps104
  go_wp2_with fail
  refine Calls.mono (par_any (b := bits .and .u8 x 13) (u8_bd _ _ _).1 (u8_bd _ _ _).2 _) ?_
  rintro e w1 ⟨rfl, rfl⟩
  obtain ⟨p1, hp1⟩ : ∃ p, p = pt (bits .and .u8 x 13) := ⟨_, rfl⟩
  rw [← hp1]
  obtain ⟨a1, b1⟩ : 0 ≤ p1 ∧ p1 < 2 := by rw [hp1]; exact pt_01 _
  have HP1 : Hid (p1 = pt (bits .and .u8 x 13)) := hp1
  clear hp1
  go_wp2_with fail
  refine Calls.mono (par_any (b := bits .and .u8 x 11) (u8_bd _ _ _).1 (u8_bd _ _ _).2 _) ?_
  rintro e w2 ⟨rfl, rfl⟩
  obtain ⟨p2, hp2⟩ : ∃ p, p = pt (bits .and .u8 x 11) := ⟨_, rfl⟩
  rw [← hp2]
  obtain ⟨a2, b2⟩ : 0 ≤ p2 ∧ p2 < 2 := by rw [hp2]; exact pt_01 _
  have HP2 : Hid (p2 = pt (bits .and .u8 x 11)) := hp2
  clear hp2
  go_wp2_with fail
  refine Calls.mono (par_any (b := x % 8) (by omega) (by omega) _) ?_
  rintro e w3 ⟨rfl, rfl⟩
  obtain ⟨p3, hp3⟩ : ∃ p, p = pt (x % 8) := ⟨_, rfl⟩
  rw [← hp3]
  obtain ⟨a3, b3⟩ : 0 ≤ p3 ∧ p3 < 2 := by rw [hp3]; exact pt_01 _
  have HP3 : Hid (p3 = pt (x % 8)) := hp3
  clear hp3
  go_wp2_with fail
  have hS : svn x p1 p2 p3 = sv x := by unfold sv; rw [HP1.out, HP2.out, HP3.out]
  have HS : Hid (svn x p1 p2 p3 = sv x) := hS
  have HB := u8_bd .or (bits .or .u8 (bits .or .u8 (bits .or .u8 (p1 * 128) (p2 * 64)) (p3 * 16)) (bits .and .u8 x 8 * 4 % 256)) (x % 8 * 2)
  obtain ⟨q, hq⟩ : ∃ q, q = bits .or .u8 (bits .or .u8 (bits .or .u8 (bits .or .u8 (p1 * 128) (p2 * 64)) (p3 * 16)) (bits .and .u8 x 8 * 4 % 256)) (x % 8 * 2) := ⟨_, rfl⟩
  rw [← hq] at HB ⊢
  have HQ : Hid (q = sv x) := hq.trans hS
  clear hq hS
  refine Calls.mono (par_any (b := q) HB.1 HB.2 _) ?_
  rintro e w4 ⟨rfl, rfl⟩
  have HR : Hid (bits .or .u8 q (pt q) = hc x) := by show _ = _; rw [HQ.out]; exact cod_is h0 h1
  obtain ⟨p4, hp4⟩ : ∃ p, p = pt q := ⟨_, rfl⟩
  rw [← hp4] at HR ⊢
  clear hp4 HQ HS
  go_wp2
  go_ret
  exact ⟨congrArg (fun z => Ending.returned (Value.int IntKind.u8 z)) HR.out, rfl⟩
theorem and1 {x : Int} (h0 : 0 ≤ x) (h1 : x < 65536) : bits .and .i64 x 1 = x % 2 := by
  obtain ⟨y, rfl⟩ := Int.eq_ofNat_of_zero_le h0
  show IntKind.i64.wrap ((BitVec.ofInt 64 (y : Int) &&& BitVec.ofInt 64 ((1 : Nat) : Int)).toNat : Int) = _
  rw [BitVec.toNat_and, ofInt_u64 _ (by omega), ofInt_u64 1 (by omega), Nat.and_one_is_mod]
  simp only [IntKind.wrap, IntKind.bits, IntKind.signed]
  simp
  omega
theorem bit1 {b : Int} (h0 : 0 ≤ b) (h1 : b < 256) (w : World) : Calls Tryd.prog 103 #[.int .u8 b, .int .i64 1] w fun e w' => e = .returned (.int .i64 (b / 128 % 2)) ∧ w' = w := by
  have ha := and1 (x := b / 128) (by omega) (by omega)
  go_enter Tryd.func103, Tryd.ntmps103
  go_wp2
  go_ret
  exact ⟨rfl, rfl⟩
theorem bit2 {b : Int} (h0 : 0 ≤ b) (h1 : b < 256) (w : World) : Calls Tryd.prog 103 #[.int .u8 b, .int .i64 2] w fun e w' => e = .returned (.int .i64 (b / 64 % 2)) ∧ w' = w := by
  have ha := and1 (x := b / 64) (by omega) (by omega)
  go_enter Tryd.func103, Tryd.ntmps103
  go_wp2
  go_ret
  exact ⟨rfl, rfl⟩
theorem bit3 {b : Int} (h0 : 0 ≤ b) (h1 : b < 256) (w : World) : Calls Tryd.prog 103 #[.int .u8 b, .int .i64 3] w fun e w' => e = .returned (.int .i64 (b / 32 % 2)) ∧ w' = w := by
  have ha := and1 (x := b / 32) (by omega) (by omega)
  go_enter Tryd.func103, Tryd.ntmps103
  go_wp2
  go_ret
  exact ⟨rfl, rfl⟩
theorem bit4 {b : Int} (h0 : 0 ≤ b) (h1 : b < 256) (w : World) : Calls Tryd.prog 103 #[.int .u8 b, .int .i64 4] w fun e w' => e = .returned (.int .i64 (b / 16 % 2)) ∧ w' = w := by
  have ha := and1 (x := b / 16) (by omega) (by omega)
  go_enter Tryd.func103, Tryd.ntmps103
  go_wp2
  go_ret
  exact ⟨rfl, rfl⟩
theorem bit5 {b : Int} (h0 : 0 ≤ b) (h1 : b < 256) (w : World) : Calls Tryd.prog 103 #[.int .u8 b, .int .i64 5] w fun e w' => e = .returned (.int .i64 (b / 8 % 2)) ∧ w' = w := by
  have ha := and1 (x := b / 8) (by omega) (by omega)
  go_enter Tryd.func103, Tryd.ntmps103
  go_wp2
  go_ret
  exact ⟨rfl, rfl⟩
theorem bit6 {b : Int} (h0 : 0 ≤ b) (h1 : b < 256) (w : World) : Calls Tryd.prog 103 #[.int .u8 b, .int .i64 6] w fun e w' => e = .returned (.int .i64 (b / 4 % 2)) ∧ w' = w := by
  have ha := and1 (x := b / 4) (by omega) (by omega)
  go_enter Tryd.func103, Tryd.ntmps103
  go_wp2
  go_ret
  exact ⟨rfl, rfl⟩
theorem bit7 {b : Int} (h0 : 0 ≤ b) (h1 : b < 256) (w : World) : Calls Tryd.prog 103 #[.int .u8 b, .int .i64 7] w fun e w' => e = .returned (.int .i64 (b / 2 % 2)) ∧ w' = w := by
  have ha := and1 (x := b / 2) (by omega) (by omega)
  go_enter Tryd.func103, Tryd.ntmps103
  go_wp2
  go_ret
  exact ⟨rfl, rfl⟩
theorem bit8 {b : Int} (h0 : 0 ≤ b) (h1 : b < 256) (w : World) : Calls Tryd.prog 103 #[.int .u8 b, .int .i64 8] w fun e w' => e = .returned (.int .i64 (b % 2)) ∧ w' = w := by
  have ha := and1 (x := b) (by omega) (by omega)
  go_enter Tryd.func103, Tryd.ntmps103
  go_wp2
  go_ret
  exact ⟨rfl, rfl⟩
set_option maxRecDepth 20000 in
set_option maxHeartbeats 3200000 in
theorem ham_any {a b c d : Int} (ha : a = 0 ∨ a = 1) (hb : b = 0 ∨ b = 1) (hcc : c = 0 ∨ c = 1) (hd : d = 0 ∨ d = 1) (w : World) : Calls Tryd.prog 102 #[.int .i64 a, .int .i64 b, .int .i64 c, .int .i64 d] w fun e w' => e = .returned (.int .u8 (hm a b c d)) ∧ w' = w := by
  rcases ha with rfl | rfl <;> rcases hb with rfl | rfl <;> rcases hcc with rfl | rfl <;> rcases hd with rfl | rfl
  all_goals
    go_enter Tryd.func102, Tryd.ntmps102
    go_wp2
    go_ret
    exact ⟨rfl, rfl⟩
end Go.Proofs.YtdknclkecbdpgaaDoor
