/- The library's size and sign of a float, and roots by classes: contracts. -/
import Derived.Test.YtbcidfmfkmeinaaZd
import Derived.Laws.Bits64b
namespace Go.Proofs.Ytbcidfmfkmeinaa
open Go.RowKit Fl
set_option linter.unusedVariables false
theorem andNot63 (x : Nat) (hx : W64 x) : bits .andNot .u64 (x : Int) 9223372036854775808 = ((rg x : Nat) : Int) := by
  have h1 : ((9223372036854775808 : Int)) = ((9223372036854775808 : Nat) : Int) := rfl
  rw [h1]
  have e : (BitVec.ofNat 64 x &&& ~~~BitVec.ofNat 64 9223372036854775808).toNat = rg x := by
    rw [BitVec.toNat_and, BitVec.toNat_not, BitVec.toNat_ofNat, BitVec.toNat_ofNat, Nat.mod_eq_of_lt (by unfold W64 at hx; omega)]
    rw [show 2 ^ 64 - 1 - 9223372036854775808 % 2 ^ 64 = 2 ^ 63 - 1 by decide, Nat.and_two_pow_sub_one_eq_mod]
  have hw : ∀ n : Nat, n < 18446744073709551616 → IntKind.u64.wrap (n : Int) = n := fun n hn => by
    simp only [IntKind.wrap, IntKind.bits, IntKind.signed]
    simp
    omega
  simp only [bits, BitVec.ofInt_natCast]
  show IntKind.u64.wrap (((BitVec.ofNat 64 x &&& ~~~BitVec.ofNat 64 9223372036854775808).toNat : Nat) : Int) = _
  rw [e]
  exact hw _ (by simp only [rg]; omega)
theorem and63 {x : Nat} (h : W64 x) : x &&& 9223372036854775808 = if 9223372036854775808 ≤ x then 9223372036854775808 else 0 := by
  apply Nat.eq_of_testBit_eq
  intro i
  rw [show (9223372036854775808 : Nat) = 2 ^ 63 by decide, Nat.testBit_and, Nat.testBit_two_pow]
  unfold W64 at h
  by_cases hx : 2 ^ 63 ≤ x
  · rw [if_pos hx, Nat.testBit_two_pow]
    by_cases hi : 63 = i
    · subst hi
      have : x.testBit 63 = true := by
        rw [Nat.testBit, Nat.shiftRight_eq_div_pow]
        have : x / 2 ^ 63 = 1 := by omega
        rw [this]; decide
      simp [this]
    · simp [hi]
  · rw [if_neg hx, Nat.zero_testBit]
    by_cases hi : 63 = i
    · subst hi
      rw [Nat.testBit_lt_two_pow (by omega)]; rfl
    · simp [hi]
theorem signBit {x : Nat} (hx : W64 x) : bits .and .u64 (x : Int) 9223372036854775808 = ((if sg x then 9223372036854775808 else 0 : Nat) : Int) := by
  have := bits_and_u64_nat x 9223372036854775808 hx (by omega)
  rw [and63 hx] at this
  rw [show ((9223372036854775808 : Int)) = ((9223372036854775808 : Nat) : Int) from rfl, this]
  by_cases h : 9223372036854775808 ≤ x
  · rw [if_pos h, show sg x = true from decide_eq_true h]; rfl
  · rw [if_neg h, show sg x = false from decide_eq_false h]; rfl
theorem orBit {r : Nat} (hr : r < 9223372036854775808) (s : Bool) : bits .or .u64 (r : Int) ((if s then 9223372036854775808 else 0 : Nat) : Int) = ((dW s r : Nat) : Int) := by
  have := bits_or_u64_nat r (if s then 9223372036854775808 else 0) (by omega) (by cases s <;> simp)
  rw [this]
  congr 1
  cases s
  · rw [dW_false]; simp
  · rw [dW_true]
    simp only [if_true]
    rw [Nat.or_comm, show (9223372036854775808 : Nat) = 2 ^ 63 * 1 by decide, ← Nat.two_pow_add_eq_or_of_lt hr 1]
theorem mAbs_any {x : Nat} (hx : W64 x) : Tells 34 x (rg x) := fun w => by
  have h1 := bits52 x
  have h3 : ∀ w, (callFunc 46 #[.int .u64 (rg x : Nat)]).run Try.prog w = .ok (.value (.float .f64 (rg x))) w := bits50 (rg x)
  have h2 := andNot63 x hx
  generalize rg x = r at *
  clear hx
  go_enter Try.func34, Try.ntmps34
  go_wp2
  go_ret
  exact ⟨rfl, rfl⟩
/-- Classes of sizes and roots. -/
def absC (o : Option Nat) : Option Nat := o.map rg
def sqK (o : Option Nat) : Option Nat := o.bind sqC
theorem rg_num {x : Nat} : Num (rg x) ↔ Num x := by
  unfold Num rg
  rw [Nat.mod_mod]
theorem fc_rg {x : Nat} {o : Option Nat} (h : Fc x o) : Fc (rg x) (absC o) := by
  obtain ⟨hx, rfl⟩ := h
  refine ⟨by simp only [rg]; unfold W64; omega, ?_⟩
  by_cases n : Num x
  · rw [cl_num n, cl_num (rg_num.2 n)]; rfl
  · rw [cl_nan n, cl_nan (fun h => n (rg_num.1 h))]; rfl
/-- The specification's size. -/
theorem sAbs_fc {x : Nat} {o : Option Nat} (h : Fc x o) : ∃ y, Tells 27 x y ∧ Fc y (absC o) := by
  by_cases n : Num x
  · exact ⟨rg x, abs_any h.lx n, fc_rg h⟩
  · exact ⟨x, abs_nan h.lx n, h.lx, by rw [← h.c, cl_nan n]; rfl⟩
theorem sqC_cl {x : Nat} (hx : W64 x) : sqC x = sqK (cl x) := by
  unfold sqK
  by_cases n : Num x
  · rw [cl_num n]; rfl
  · rw [cl_nan n]; simp [sqC, sqrt_nan hx n]
theorem sSqrt_fcQ {x : Nat} {o : Option Nat} (h : Fc x o) (w : World) : Calls Try.prog 28 #[.float .f64 x] w fun e w' => ∃ v q, e = .returned (.float .f64 v) ∧ Fc v (sqK o) ∧ w' = w.drewN q := by
  refine (sSqrt_any h.lx w).mono ?_
  rintro e w' ⟨v, q, rfl, hv, hc, rfl⟩
  exact ⟨v, q, rfl, ⟨hv, by rw [hc, sqC_cl h.lx, h.c]⟩, rfl⟩
theorem iSqrt_fcQ {x : Nat} {o : Option Nat} (h : Fc x o) (w : World) : Calls Try.prog 48 #[.float .f64 x] w fun e w' => ∃ v q, e = .returned (.float .f64 v) ∧ Fc v (sqK o) ∧ w' = w.drewN q := by
  refine (iSqrt_any x w).mono ?_
  rintro e w' ⟨v, q, rfl, hv, hc, rfl⟩
  exact ⟨v, q, rfl, ⟨hv, by rw [hc, sqC_cl h.lx, h.c]⟩, rfl⟩
theorem fc_opQ {x y : Nat} {o u : Option Nat} (op : BinOp) (h : Fc x o) (k : Fc y u) (w : World) : Fc (opV op x y w) (opC op o u) :=
  ⟨opV_lt _ _ _ _, by rw [opV_cl _ h.lx k.lx, h.c, k.c]⟩
end Go.Proofs.Ytbcidfmfkmeinaa
