/- The library's two functions between floats and their bits, and the program's and the specification's tests for NaN. The specification's tests of sign and of the infinite ones, and its parts of a finite float: contracts. The specification's scaling by powers of two: a contract. The specification's bits of a float: a contract. The specification's float of bits: a contract. The laws' own comparison of two floats: at the same float (all NaNs being one) it says yes. The next float: contracts of the specification's and the program's. The order of all floats: contracts of the specification's and the program's comparison. The specification's comparison of floats: a contract. The root of m * 2^54, digit by digit. Plain laws, no program. The specification's whole root, digit by digit: a contract. Square roots: contracts of the specification's and the program's. -/
import Derived.Test.YtbcidfmfkmeinaaRows
import Derived.Test.YtbcidfmfkmeinaaFlMore
import Derived.WalkKit
import Derived.WalkSpells
import Derived.WalkLawsBesides
import Derived.Outline
import Derived.RegionTactic
import Derived.Deep.QuietTactic
import Derived.Deep.RegionWith
import Derived.BigQuiet
import Derived.BigRegion
import Derived.WalkSmall
import Derived.Laws.Externs
import Derived.Laws.BitsAllLaws
namespace Go.Proofs.Ytbcidfmfkmeinaa
open Go.RowKit Fl
theorem bits52 (b : Nat) (w : World) : (callFunc 47 #[.float .f64 b]).run Try.prog w = .ok (.value (.int .u64 b)) w := by
  rw [run_callFunc_extern Try.func47 (by kernel_rfl) (by kernel_rfl) (by kernel_rfl) (e := Extern.MathFloatBits.float64bits) (by kernel_rfl)]
  rfl
theorem bits50 (n : Nat) (w : World) : (callFunc 46 #[.int .u64 n]).run Try.prog w = .ok (.value (.float .f64 n)) w := by
  rw [run_callFunc_extern Try.func46 (by kernel_rfl) (by kernel_rfl) (by kernel_rfl) (e := Extern.MathFloatBits.float64frombits) (by kernel_rfl)]
  rfl
theorem l3NaN_any {b : Nat} (hb : b < 18446744073709551616) (w : World) : Calls Try.prog 39 #[.float .f64 b] w fun e w' => e = .returned (.bool (decide (¬ Num b))) ∧ w = w' := by
  rw [← ne_self hb]
  go_enter Try.func39, Try.ntmps39
  go_wp2
  go_ret
  exact ⟨rfl, rfl⟩
end Go.Proofs.Ytbcidfmfkmeinaa
namespace Go.Proofs.Ytbcidfmfkmeinaa
open Go.RowKit Fl
theorem one_over_zero : floatBits .quo .f64 4607182418800017408 0 = some 9218868437227405312 := by decide
theorem one_over_negzero : floatBits .quo .f64 4607182418800017408 9223372036854775808 = some 18442240474082181120 := by decide
theorem l3Neg_any {b : Nat} (hb : b < 18446744073709551616) (nb : Num b) (w : World) : Calls Try.prog 38 #[.float .f64 b] w fun e w' => e = .returned (.bool (sg b)) ∧ w = w' := by
  have ho := order_zero hb nb
  by_cases h0 : rg b = 0
  · rw [if_pos h0] at ho
    by_cases hs : 9223372036854775808 ≤ b
    · obtain rfl : b = 9223372036854775808 := by simp only [rg] at h0; omega
      have hq : ∀ t w, (binOp .quo t (.float .f64 4607182418800017408) (.float .f64 9223372036854775808)).run Try.prog w = .ok (.float .f64 18442240474082181120) w := fun t w => run_float_arith w .quo t .f64 _ _ _ one_over_negzero
      have h2 : FloatKind.f64.format.order 18442240474082181120 0 = some .lt := by decide
      rw [show sg 9223372036854775808 = true by decide]
      clear hb nb h0 hs
      go_enter Try.func38, Try.ntmps38
      go_wp2
      go_ret
      exact ⟨rfl, rfl⟩
    · obtain rfl : b = 0 := by simp only [rg] at h0; omega
      have hq : ∀ t w, (binOp .quo t (.float .f64 4607182418800017408) (.float .f64 0)).run Try.prog w = .ok (.float .f64 9218868437227405312) w := fun t w => run_float_arith w .quo t .f64 _ _ _ one_over_zero
      have h2 : FloatKind.f64.format.order 9218868437227405312 0 = some .gt := by decide
      rw [show sg 0 = false by decide]
      clear hb nb h0 hs
      go_enter Try.func38, Try.ntmps38
      go_wp2
      go_ret
      exact ⟨rfl, rfl⟩
  · rw [if_neg h0] at ho
    by_cases hs : sg b = true
    · rw [if_pos hs] at ho
      rw [hs]
      clear hb nb h0 hs
      go_enter Try.func38, Try.ntmps38
      go_wp2
      go_ret
      exact ⟨rfl, rfl⟩
    · rw [if_neg hs] at ho
      rw [Bool.eq_false_iff.2 hs]
      clear hb nb h0 hs
      go_enter Try.func38, Try.ntmps38
      go_wp2
      go_ret
      exact ⟨rfl, rfl⟩
theorem l3IsInf_any {b : Nat} (hb : b < 18446744073709551616) (nb : Num b) (w : World) : Calls Try.prog 41 #[.float .f64 b] w fun e w' => e = .returned (.bool (decide (rg b = 9218868437227405312))) ∧ w = w' := by
  have h1 := order_large hb nb
  have h2 := order_least hb nb
  by_cases c1 : b = 9218868437227405312
  · have g1 := h1.2 c1
    rw [decide_eq_true (by rw [c1])]
    clear h1 h2 hb nb c1
    go_enter Try.func41, Try.ntmps41
    go_wp2
    go_ret
    exact ⟨rfl, rfl⟩
  · have g1 : (FloatKind.f64.format.order b 9218868437227405311 == some .gt) = false := by
      rw [beq_order]; exact decide_eq_false (fun h => c1 (h1.1 h))
    by_cases c2 : b = 18442240474082181120
    · have g2 := h2.2 c2
      rw [decide_eq_true (by rw [c2])]
      clear h1 h2 hb nb c1 c2
      go_enter Try.func41, Try.ntmps41
      go_wp2
      go_ret
      exact ⟨rfl, rfl⟩
    · have g2 : (FloatKind.f64.format.order b 18442240474082181119 == some .lt) = false := by
        rw [beq_order]; exact decide_eq_false (fun h => c2 (h2.1 h))
      rw [decide_eq_false (by simp only [rg]; omega)]
      clear h1 h2 hb nb c1 c2
      go_enter Try.func41, Try.ntmps41
      go_wp2
      go_ret
      exact ⟨rfl, rfl⟩
theorem quo64 {y y' : Nat} (h : Ieee.double.div y 4895412794951729152 = some y') : ∀ t w, (binOp .quo t (.float .f64 y) (.float .f64 4895412794951729152)).run Try.prog w = .ok (.float .f64 y') w :=
  fun t w => run_float_arith w .quo t .f64 _ _ _ h
theorem quo2 {y y' : Nat} (h : Ieee.double.div y 4611686018427387904 = some y') : ∀ t w, (binOp .quo t (.float .f64 y) (.float .f64 4611686018427387904)).run Try.prog w = .ok (.float .f64 y') w :=
  fun t w => run_float_arith w .quo t .f64 _ _ _ h
theorem mul64 {y y' : Nat} (h : Ieee.double.mul y 4895412794951729152 = some y') : ∀ t w, (binOp .mul t (.float .f64 y) (.float .f64 4895412794951729152)).run Try.prog w = .ok (.float .f64 y') w :=
  fun t w => run_float_arith w .mul t .f64 _ _ _ h
theorem mul2 {y y' : Nat} (h : Ieee.double.mul y 4611686018427387904 = some y') : ∀ t w, (binOp .mul t (.float .f64 y) (.float .f64 4611686018427387904)).run Try.prog w = .ok (.float .f64 y') w :=
  fun t w => run_float_arith w .mul t .f64 _ _ _ h
theorem to_int {y : Nat} {m : Nat} (h : y = F false m 0) (hm : m < 9007199254740992) : ∀ w, (convert 23 2 (.float .f64 y)).run Try.prog w = .ok (.int .i64 m) w :=
  fun w => run_convert_float_int w 23 2 .f64 .i64 _ _ (by rw [Try.underlying23]; rfl) Try.underlying2 (by rw [h]; exact toInt_F hm)
set_option maxHeartbeats 1600000 in
theorem parts_go {M : Nat} {P0 : Int} {x : Nat} (hx : x = F false M P0) (hz : FloatKind.f64.format.order x 0 = some .gt) (hrep : Rep M P0) (hsm : M < 4503599627370496 → P0 = -1074) (h971 : P0 ≤ 971) (w : World) :
    Calls Try.prog 42 #[.float .f64 x] w fun e w' => e = .returned (.tuple #[.int .i64 M, .int .i64 P0]) ∧ w = w' := by
  have hlo : -1074 ≤ P0 := hrep.2.1
  have HX : Hid (x = F false M P0 ∧ Rep M P0) := ⟨hx, hrep⟩
  have HS : Hid (M < 4503599627370496 → P0 = -1074) := hsm
  have hM : M < 9007199254740992 := hrep.1
  clear hx hrep hsm
  go_enter Try.func42, Try.ntmps42
  go_wp2
  go_loopw [0, 4] (fun f e wr => wr = w ∧ ∃ (p : Int) (y : Nat), f = .float .f64 y ∧ e = .int .i64 (P0 - p) ∧ Hid (y = F false M p ∧ Rep M p) ∧ p ≤ P0 ∧ -1074 ≤ p) (fun _ e _ => (P0 - intOf e + 2000).toNat)
  case atStart => exact ⟨rfl, P0, x, rfl, by simp, HX, by omega, hlo⟩
  case round =>
    obtain ⟨rfl, p, y, rfl, rfl, hy, hp, hp2⟩ := hrel
    clear HX hz
    by_cases h : 64 ≤ p
    · obtain ⟨y', hy'⟩ : ∃ y', y' = F false M (p - 64) := ⟨_, rfl⟩
      have hq := quo64 (y := y) (y' := y') (by rw [hy.out.1, hy']; exact over64_F hy.out.2 false)
      have HY : Hid (y' = F false M (p - 64) ∧ Rep M (p - 64)) := ⟨hy', rep_lower hy.out.2 (by omega) (by omega)⟩
      have hge : FloatKind.f64.format.order y 5129599975574994944 = some .gt ∨ FloatKind.f64.format.order y 5129599975574994944 = some .eq := by
        have hm : 4503599627370496 ≤ M := by
          have := HS.out
          omega
        have := below_pow (q := 64) hy.out.2 hm (by omega) (by omega) h
        rw [c116, ← hy.out.1] at this
        exact this
      clear hy hy' HS
      rcases hge with hge | hge
      · go_wp2
        go_roundw
        case rel => exact ⟨by trivial, p - 64, y', rfl, by simp; omega, HY, by omega, by omega⟩
        case measure => simp [intOf]; omega
      · go_wp2
        go_roundw
        case rel => exact ⟨by trivial, p - 64, y', rfl, by simp; omega, HY, by omega, by omega⟩
        case measure => simp [intOf]; omega
    · have hlt : FloatKind.f64.format.order y 5129599975574994944 = some .lt := by
        have := lt_pow (q := 64) hy.out.2 (by omega) (by omega) (by omega)
        rw [c116, ← hy.out.1] at this
        exact this
      go_wp2
      have HX : Hid (y = F false M p ∧ Rep M p) := hy
      clear hlt hy
      go_loopw [0, 4] (fun f e wr' => wr' = wr ∧ ∃ (p : Int) (y : Nat), f = .float .f64 y ∧ e = .int .i64 (P0 - p) ∧ Hid (y = F false M p ∧ Rep M p) ∧ p ≤ P0 ∧ -1074 ≤ p) (fun _ e _ => (P0 - intOf e + 2000).toNat)
      case atStart => exact ⟨rfl, p, y, rfl, rfl, HX, by omega, by omega⟩
      case round =>
        obtain ⟨rfl, p, y, rfl, rfl, hy, hp, hp2⟩ := hrel
        clear HX
        by_cases h : 1 ≤ p
        · obtain ⟨y', hy'⟩ : ∃ y', y' = F false M (p - 1) := ⟨_, rfl⟩
          have hq := quo2 (y := y) (y' := y') (by rw [hy.out.1, hy']; exact half_F hy.out.2 false)
          have HY : Hid (y' = F false M (p - 1) ∧ Rep M (p - 1)) := ⟨hy', rep_lower hy.out.2 (by omega) (by omega)⟩
          have hge : FloatKind.f64.format.order y 4845873199050653696 = some .gt ∨ FloatKind.f64.format.order y 4845873199050653696 = some .eq := by
            have hm : 4503599627370496 ≤ M := by
              have := HS.out
              omega
            have := below_pow (q := 1) hy.out.2 hm (by omega) (by omega) h
            rw [c53, ← hy.out.1] at this
            exact this
          clear hy hy' HS
          rcases hge with hge | hge
          · go_wp2
            go_roundw
            case rel => exact ⟨by trivial, p - 1, y', rfl, by simp; omega, HY, by omega, by omega⟩
            case measure => simp [intOf]; omega
          · go_wp2
            go_roundw
            case rel => exact ⟨by trivial, p - 1, y', rfl, by simp; omega, HY, by omega, by omega⟩
            case measure => simp [intOf]; omega
        · have hlt : FloatKind.f64.format.order y 4845873199050653696 = some .lt := by
            have := lt_pow (q := 1) hy.out.2 (by omega) (by omega) (by omega)
            rw [c53, ← hy.out.1] at this
            exact this
          go_wp2
          have HX : Hid (y = F false M p ∧ Rep M p) := hy
          clear hlt hy
          go_loopw [0, 4] (fun f e wr' => wr' = wr ∧ ∃ (p : Int) (y : Nat), f = .float .f64 y ∧ e = .int .i64 (P0 - p) ∧ Hid (y = F false M p ∧ Rep M p) ∧ p ≤ 0 ∧ -1074 ≤ p) (fun _ e _ => (intOf e + 5000).toNat)
          case atStart => exact ⟨rfl, p, y, rfl, rfl, HX, by omega, by omega⟩
          case round =>
            obtain ⟨rfl, p, y, rfl, rfl, hy, hp, hp2⟩ := hrel
            clear HX
            by_cases h : p < 0
            · obtain ⟨y', hy'⟩ : ∃ y', y' = F false M (p + 1) := ⟨_, rfl⟩
              have hq := mul2 (y := y) (y' := y') (by rw [hy.out.1, hy']; exact twice_F hy.out.2 false)
              have HY : Hid (y' = F false M (p + 1) ∧ Rep M (p + 1)) := ⟨hy', rep_upto hM (by omega) (by omega)⟩
              have hlt : FloatKind.f64.format.order y 4841369599423283200 = some .lt := by
                have := lt_pow (q := 0) hy.out.2 (by omega) (by omega) h
                rw [c52, ← hy.out.1] at this
                exact this
              clear hy hy' HS
              go_wp2
              go_roundw
              case rel => exact ⟨by trivial, p + 1, y', rfl, by simp; omega, HY, by omega, by omega⟩
              case measure => simp [intOf]; omega
            · obtain rfl : p = 0 := by omega
              have hc := to_int hy.out.1 hM
              by_cases hm : 4503599627370496 ≤ M
              · have hge : FloatKind.f64.format.order y 4841369599423283200 = some .gt ∨ FloatKind.f64.format.order y 4841369599423283200 = some .eq := by
                  have := below_pow (q := 0) hy.out.2 hm (by omega) (by omega) (by omega)
                  rw [c52, ← hy.out.1] at this
                  exact this
                clear hy HS
                rcases hge with hge | hge
                · go_wp2
                  go_ret2
                  exact ⟨by simp, rfl⟩
                · go_wp2
                  go_ret2
                  exact ⟨by simp, rfl⟩
              · obtain rfl : P0 = -1074 := HS.out (by omega)
                have hlt : FloatKind.f64.format.order y 4841369599423283200 = some .lt := by
                  have := small_below hy.out.2 (by omega) (by omega)
                  rw [c52, ← hy.out.1] at this
                  exact this
                clear hy HS
                go_wp2
                go_ret2
                exact ⟨by simp, rfl⟩
theorem parts_any {r : Nat} (h0 : 0 < r) (hr : r < 9218868437227405312) (w : World) : Calls Try.prog 42 #[.float .f64 r] w fun e w' => e = .returned (.tuple #[.int .i64 (mg r), .int .i64 (pl r)]) ∧ w = w' := by
  have hz : FloatKind.f64.format.order r 0 = some .gt := by
    rw [order_zero (by omega) (show r % 9223372036854775808 ≤ _ by omega), if_neg (by simp only [rg]; omega), if_neg (by simp only [sg]; simp; omega)]
  exact parts_go (by rw [F_rg false hr, dW_false]) hz (rep_rg hr) mg_small (pl_le hr) w
end Go.Proofs.Ytbcidfmfkmeinaa
namespace Go.Proofs.Ytbcidfmfkmeinaa
open Go.RowKit Fl
set_option maxHeartbeats 1600000 in
theorem times_any {m : Nat} {n : Int} {y : Nat} (hy : y = F false m 0) (hm : m < 9007199254740992) (hn : -1074 ≤ n) (hn2 : n ≤ 971) (w : World) :
    Calls Try.prog 43 #[.float .f64 y, .int .i64 n] w fun e w' => e = .returned (.float .f64 (F false m n)) ∧ w = w' := by
  have HX : Hid (y = F false m 0) := hy
  clear hy
  go_enter Try.func43, Try.ntmps43
  go_wp2
  go_loopw [0, 1] (fun f e wr => wr = w ∧ ∃ (p : Int) (y : Nat), f = .float .f64 y ∧ e = .int .i64 (n - p) ∧ Hid (y = F false m p) ∧ 0 ≤ p ∧ (p ≤ n ∨ p = 0)) (fun _ e _ => (intOf e).natAbs)
  case atStart => exact ⟨rfl, 0, y, rfl, by simp, HX, by omega, by omega⟩
  case round =>
    obtain ⟨rfl, p, y, rfl, rfl, hy, hp, hp2⟩ := hrel
    clear HX
    by_cases h : 64 ≤ n - p
    · obtain ⟨y', hy'⟩ : ∃ y', y' = F false m (p + 64) := ⟨_, rfl⟩
      have hq := mul64 (y := y) (y' := y') (by rw [hy.out, hy']; exact times64_F (rep_upto hm (by omega) (by omega)) false)
      have HY : Hid (y' = F false m (p + 64)) := hy'
      clear hy hy'
      go_wp2
      go_roundw
      case rel => exact ⟨by trivial, p + 64, y', rfl, by simp; omega, HY, by omega, by omega⟩
      case measure => simp [intOf]; omega
    · go_wp2
      have HX : Hid (y = F false m p) := hy
      clear hy
      go_loopw [0, 1] (fun f e wr' => wr' = wr ∧ ∃ (p : Int) (y : Nat), f = .float .f64 y ∧ e = .int .i64 (n - p) ∧ Hid (y = F false m p) ∧ 0 ≤ p ∧ (p ≤ n ∨ p = 0)) (fun _ e _ => (intOf e).natAbs)
      case atStart => exact ⟨rfl, p, y, rfl, rfl, HX, by omega, by omega⟩
      case round =>
        obtain ⟨rfl, p, y, rfl, rfl, hy, hp, hp2⟩ := hrel
        clear HX
        by_cases h : 0 < n - p
        · obtain ⟨y', hy'⟩ : ∃ y', y' = F false m (p + 1) := ⟨_, rfl⟩
          have hq := mul2 (y := y) (y' := y') (by rw [hy.out, hy']; exact twice_F (rep_upto hm (by omega) (by omega)) false)
          have HY : Hid (y' = F false m (p + 1)) := hy'
          clear hy hy'
          go_wp2
          go_roundw
          case rel => exact ⟨by trivial, p + 1, y', rfl, by simp; omega, HY, by omega, by omega⟩
          case measure => simp [intOf]; omega
        · go_wp2
          have HX : Hid (y = F false m p) := hy
          clear hy
          go_loopw [0, 1] (fun f e wr' => wr' = wr ∧ ∃ (p : Int) (y : Nat), f = .float .f64 y ∧ e = .int .i64 (n - p) ∧ Hid (y = F false m p) ∧ n ≤ p ∧ (p ≤ 0 ∨ p = n)) (fun _ e _ => (intOf e).natAbs)
          case atStart => exact ⟨rfl, p, y, rfl, rfl, HX, by omega, by omega⟩
          case round =>
            obtain ⟨rfl, p, y, rfl, rfl, hy, hp, hp2⟩ := hrel
            clear HX
            by_cases h : n - p ≤ -64
            · obtain ⟨y', hy'⟩ : ∃ y', y' = F false m (p - 64) := ⟨_, rfl⟩
              have hq := quo64 (y := y) (y' := y') (by rw [hy.out, hy']; exact over64_F (rep_upto hm (by omega) (by omega)) false)
              have HY : Hid (y' = F false m (p - 64)) := hy'
              clear hy hy'
              go_wp2
              go_roundw
              case rel => exact ⟨by trivial, p - 64, y', rfl, by simp; omega, HY, by omega, by omega⟩
              case measure => simp [intOf]; omega
            · go_wp2
              have HX : Hid (y = F false m p) := hy
              clear hy
              go_loopw [0, 1] (fun f e wr' => wr' = wr ∧ ∃ (p : Int) (y : Nat), f = .float .f64 y ∧ e = .int .i64 (n - p) ∧ Hid (y = F false m p) ∧ n ≤ p ∧ (p ≤ 0 ∨ p = n)) (fun _ e _ => (intOf e).natAbs)
              case atStart => exact ⟨rfl, p, y, rfl, rfl, HX, by omega, by omega⟩
              case round =>
                obtain ⟨rfl, p, y, rfl, rfl, hy, hp, hp2⟩ := hrel
                clear HX
                by_cases h : n - p < 0
                · obtain ⟨y', hy'⟩ : ∃ y', y' = F false m (p - 1) := ⟨_, rfl⟩
                  have hq := quo2 (y := y) (y' := y') (by rw [hy.out, hy']; exact half_F (rep_upto hm (by omega) (by omega)) false)
                  have HY : Hid (y' = F false m (p - 1)) := hy'
                  clear hy hy'
                  go_wp2
                  go_roundw
                  case rel => exact ⟨by trivial, p - 1, y', rfl, by simp; omega, HY, by omega, by omega⟩
                  case measure => simp [intOf]; omega
                · go_wp2
                  obtain rfl : p = n := by omega
                  have HX : Hid (y = F false m p) := hy
                  go_ret
                  exact ⟨congrArg (fun z => Ending.returned (Value.float .f64 z)) HX.out, rfl⟩
end Go.Proofs.Ytbcidfmfkmeinaa
namespace Go.Proofs.Ytbcidfmfkmeinaa
open Go.RowKit Fl
theorem xor63 {x : Nat} (h : x < 9223372036854775808) : x ^^^ 9223372036854775808 = 9223372036854775808 + x := by
  have h1 := Nat.two_pow_add_eq_or_of_lt (i := 63) (b := x) h 1
  have h2 : 2 ^ 63 * 1 ||| x = x ^^^ 9223372036854775808 := by
    apply Nat.eq_of_testBit_eq
    intro i
    rw [show 2 ^ 63 * 1 = 2 ^ 63 by omega, show (9223372036854775808 : Nat) = 2 ^ 63 by decide, Nat.testBit_or, Nat.testBit_xor, Nat.testBit_two_pow]
    by_cases hi : 63 = i
    · subst hi
      rw [Nat.testBit_lt_two_pow (by omega : x < 2 ^ 63)]
      simp
    · simp [hi]
  omega
theorem neg_false {r : Nat} (h : r < 9223372036854775808) : Op.negFloat .f64 (dW false r) = dW true r := by
  rw [dW_true, dW_false]
  exact xor63 h
theorem neg_true {r : Nat} (h : r < 9223372036854775808) : Op.negFloat .f64 (dW true r) = dW false r := by
  rw [← neg_false h]
  unfold Op.negFloat
  rw [Nat.xor_assoc, Nat.xor_self, Nat.xor_zero]
theorem neg_dW {b : Nat} (hb : b < 18446744073709551616) (hs : sg b = true) : Op.negFloat .f64 b = rg b := by
  have h1 := split_word hb
  rw [hs] at h1
  have h2 := neg_true (r := rg b) (by simp only [rg]; omega)
  rw [← h1, dW_false] at h2
  exact h2
theorem ret_u64 {a b : Int} (h : a = b) : Ending.returned (.int .u64 a) = .returned (.int .u64 b) := by rw [h]
theorem ret_f64 {a b : Nat} (h : a = b) : Ending.returned (.float .f64 a) = .returned (.float .f64 b) := by rw [h]
theorem wraps_u64 (n : Int) (h₀ : 0 ≤ n) (h₁ : n < 2 ^ 64) : IntKind.u64.wrap n = n := by
  simp [IntKind.wrap, IntKind.bits, IntKind.signed]; omega
theorem join_u64 (i : Nat) (x y : Int) (hx₀ : 0 ≤ x) (hx : x % 2 ^ i = 0) (hx₁ : x < 2 ^ 64) (hy₀ : 0 ≤ y) (hy : y < 2 ^ i) (hy₁ : y < 2 ^ 64) : bits .or .u64 x y = x + y :=
  bits_join .u64 64 (by decide) wraps_u64 i x y hx₀ hx hx₁ hy₀ hy hy₁
theorem mg_pl_small {r : Nat} (h : mg r < 4503599627370496) : mg r = r := by
  unfold mg at h ⊢
  split at h
  · rename_i h1; rw [if_pos h1]
  · omega
theorem mg_pl_great {r : Nat} (h : 4503599627370496 ≤ mg r) : mg r = 4503599627370496 + r % 4503599627370496 ∧ pl r + 1075 = (r / 4503599627370496 : Nat) := by
  unfold mg at h
  unfold mg pl
  split at h
  · omega
  · rename_i h1
    rw [if_neg h1, if_neg h1]
    omega
theorem parts_zero (w : World) : Calls Try.prog 42 #[.float .f64 0] w fun e w' => e = .returned (.tuple #[.int .i64 0, .int .i64 (-1074)]) ∧ w = w' := by
  have hz : FloatKind.f64.format.order 0 0 = some .eq := by decide
  go_enter Try.func42, Try.ntmps42
  go_wp2
  go_ret2
  exact ⟨rfl, rfl⟩
theorem parts_all {r : Nat} (hr : r < 9218868437227405312) (w : World) : Calls Try.prog 42 #[.float .f64 r] w fun e w' => e = .returned (.tuple #[.int .i64 (mg r), .int .i64 (pl r)]) ∧ w = w' := by
  by_cases h : r = 0
  · subst h
    exact parts_zero w
  · exact parts_any (by omega) hr w
end Go.Proofs.Ytbcidfmfkmeinaa
namespace Go.Proofs.Ytbcidfmfkmeinaa
open Go.RowKit Fl
theorem big_twice : floatBits .mul .f64 9218868437227405311 4611686018427387904 = some 9218868437227405312 := by decide
theorem inf_less : floatBits .sub .f64 9218868437227405312 9218868437227405312 = none := by decide
theorem mask_u64 (i : Nat) (hi : i ≤ 64) (x : Int) (h₀ : 0 ≤ x) (h₁ : x < 2 ^ 64) : bits .and .u64 x (2 ^ i - 1) = x % 2 ^ i := bits_mask .u64 64 (by decide) wraps_u64 i hi x h₀ h₁
set_option maxRecDepth 100000 in
set_option maxHeartbeats 800000 in
theorem sOf_inf0 {B E M : Int} (h1 : B / 9223372036854775808 = 0) (h2 : bits .and .u64 (B / 4503599627370496) 2047 = E) (h3 : bits .and .u64 B 4503599627370495 = M) (hM0 : 0 ≤ M) (hM : M < 4503599627370496) (w : World) (hE : E = 2047) (hm : M = 0) :
    Calls Try.prog 40 #[.int .u64 B] w fun e w' => e = .returned (.float .f64 9218868437227405312) ∧ w = w' := by
  subst hE hm
  have hb := fun t w => run_float_arith (P := Try.prog) w .mul t .f64 _ _ _ big_twice
  go_enter Try.func40, Try.ntmps40
  go_wp2
  go_ret
  exact ⟨rfl, rfl⟩
set_option maxRecDepth 100000 in
set_option maxHeartbeats 800000 in
theorem sOf_nan0 {B E M : Int} (h1 : B / 9223372036854775808 = 0) (h2 : bits .and .u64 (B / 4503599627370496) 2047 = E) (h3 : bits .and .u64 B 4503599627370495 = M) (hM0 : 0 ≤ M) (hM : M < 4503599627370496) (w : World) (hE : E = 2047) (hm : M ≠ 0) :
    Calls Try.prog 40 #[.int .u64 B] w fun e w' => e = .returned (.float .f64 (nanAt w 9218868437227405312 9218868437227405312)) ∧ w.drew = w' := by
  subst hE
  have hb := fun t w => run_float_arith (P := Try.prog) w .mul t .f64 _ _ _ big_twice
  have hd := fun t w => run_float_none (P := Try.prog) w .sub t _ _ (by simp) inf_less
  go_enter Try.func40, Try.ntmps40
  go_wp2
  go_ret
  exact ⟨rfl, rfl⟩
set_option maxRecDepth 100000 in
set_option maxHeartbeats 800000 in
theorem sOf_small0 {B E M : Int} (h1 : B / 9223372036854775808 = 0) (h2 : bits .and .u64 (B / 4503599627370496) 2047 = E) (h3 : bits .and .u64 B 4503599627370495 = M) (hM0 : 0 ≤ M) (hM : M < 4503599627370496) (w : World) (hE : E = 0) {x : Nat} (HF : Hid (∀ w, Calls Try.prog 43 #[.float .f64 (floatOfInt .f64 M), .int .i64 (-1074)] w fun e w' => e = .returned (.float .f64 x) ∧ w = w')) :
    Calls Try.prog 40 #[.int .u64 B] w fun e w' => e = .returned (.float .f64 x) ∧ w = w' := by
  subst hE
  go_enter Try.func40, Try.ntmps40
  go_wp2_with fail
  refine (HF.out _).mono ?_
  rintro e w1 ⟨rfl, rfl⟩
  clear HF
  go_wp2
  go_ret
  exact ⟨rfl, rfl⟩
set_option maxRecDepth 100000 in
set_option maxHeartbeats 800000 in
theorem sOf_great0 {B E M : Int} (h1 : B / 9223372036854775808 = 0) (h2 : bits .and .u64 (B / 4503599627370496) 2047 = E) (h3 : bits .and .u64 B 4503599627370495 = M) (hM0 : 0 ≤ M) (hM : M < 4503599627370496) (w : World) (hE : E ≠ 0) (hE0 : 0 ≤ E) (hE2 : E < 2047) {x : Nat} (HF : Hid (∀ w, Calls Try.prog 43 #[.float .f64 (floatOfInt .f64 (M + 4503599627370496)), .int .i64 (E - 1075)] w fun e w' => e = .returned (.float .f64 x) ∧ w = w')) :
    Calls Try.prog 40 #[.int .u64 B] w fun e w' => e = .returned (.float .f64 x) ∧ w = w' := by
  go_enter Try.func40, Try.ntmps40
  go_wp2_with fail
  refine (HF.out _).mono ?_
  rintro e w1 ⟨rfl, rfl⟩
  clear HF
  go_wp2
  go_ret
  exact ⟨rfl, rfl⟩
set_option maxRecDepth 100000 in
set_option maxHeartbeats 800000 in
theorem sOf_inf1 {B E M : Int} (h1 : B / 9223372036854775808 = 1) (h2 : bits .and .u64 (B / 4503599627370496) 2047 = E) (h3 : bits .and .u64 B 4503599627370495 = M) (hM0 : 0 ≤ M) (hM : M < 4503599627370496) (w : World) (hE : E = 2047) (hm : M = 0) {y : Nat} (hn : ∀ wa, (Op.unary .neg (.float .f64 9218868437227405312)).run Try.prog wa = .ok (.float .f64 y) wa) :
    Calls Try.prog 40 #[.int .u64 B] w fun e w' => e = .returned (.float .f64 y) ∧ w = w' := by
  subst hE hm
  have hb := fun t w => run_float_arith (P := Try.prog) w .mul t .f64 _ _ _ big_twice
  go_enter Try.func40, Try.ntmps40
  go_wp2
  go_ret
  exact ⟨rfl, rfl⟩
set_option maxRecDepth 100000 in
set_option maxHeartbeats 800000 in
theorem sOf_nan1 {B E M : Int} (h1 : B / 9223372036854775808 = 1) (h2 : bits .and .u64 (B / 4503599627370496) 2047 = E) (h3 : bits .and .u64 B 4503599627370495 = M) (hM0 : 0 ≤ M) (hM : M < 4503599627370496) (w : World) (hE : E = 2047) (hm : M ≠ 0) {y : Nat} (hn : ∀ wa, (Op.unary .neg (.float .f64 (nanAt w 9218868437227405312 9218868437227405312))).run Try.prog wa = .ok (.float .f64 y) wa) :
    Calls Try.prog 40 #[.int .u64 B] w fun e w' => e = .returned (.float .f64 y) ∧ w.drew = w' := by
  subst hE
  have hb := fun t w => run_float_arith (P := Try.prog) w .mul t .f64 _ _ _ big_twice
  have hd := fun t w => run_float_none (P := Try.prog) w .sub t _ _ (by simp) inf_less
  go_enter Try.func40, Try.ntmps40
  go_wp2
  go_ret
  exact ⟨rfl, rfl⟩
set_option maxRecDepth 100000 in
set_option maxHeartbeats 800000 in
theorem sOf_small1 {B E M : Int} (h1 : B / 9223372036854775808 = 1) (h2 : bits .and .u64 (B / 4503599627370496) 2047 = E) (h3 : bits .and .u64 B 4503599627370495 = M) (hM0 : 0 ≤ M) (hM : M < 4503599627370496) (w : World) (hE : E = 0) {x : Nat} (HF : Hid (∀ w, Calls Try.prog 43 #[.float .f64 (floatOfInt .f64 M), .int .i64 (-1074)] w fun e w' => e = .returned (.float .f64 x) ∧ w = w')) {y : Nat} (hn : ∀ wa, (Op.unary .neg (.float .f64 x)).run Try.prog wa = .ok (.float .f64 y) wa) :
    Calls Try.prog 40 #[.int .u64 B] w fun e w' => e = .returned (.float .f64 y) ∧ w = w' := by
  subst hE
  go_enter Try.func40, Try.ntmps40
  go_wp2_with fail
  refine (HF.out _).mono ?_
  rintro e w1 ⟨rfl, rfl⟩
  clear HF
  go_wp2
  go_ret
  exact ⟨rfl, rfl⟩
set_option maxRecDepth 100000 in
set_option maxHeartbeats 800000 in
theorem sOf_great1 {B E M : Int} (h1 : B / 9223372036854775808 = 1) (h2 : bits .and .u64 (B / 4503599627370496) 2047 = E) (h3 : bits .and .u64 B 4503599627370495 = M) (hM0 : 0 ≤ M) (hM : M < 4503599627370496) (w : World) (hE : E ≠ 0) (hE0 : 0 ≤ E) (hE2 : E < 2047) {x : Nat} (HF : Hid (∀ w, Calls Try.prog 43 #[.float .f64 (floatOfInt .f64 (M + 4503599627370496)), .int .i64 (E - 1075)] w fun e w' => e = .returned (.float .f64 x) ∧ w = w')) {y : Nat} (hn : ∀ wa, (Op.unary .neg (.float .f64 x)).run Try.prog wa = .ok (.float .f64 y) wa) :
    Calls Try.prog 40 #[.int .u64 B] w fun e w' => e = .returned (.float .f64 y) ∧ w = w' := by
  go_enter Try.func40, Try.ntmps40
  go_wp2_with fail
  refine (HF.out _).mono ?_
  rintro e w1 ⟨rfl, rfl⟩
  clear HF
  go_wp2
  go_ret
  exact ⟨rfl, rfl⟩
theorem neg_run (x : Nat) : ∀ wa, (Op.unary .neg (.float .f64 x)).run Try.prog wa = .ok (.float .f64 (Op.negFloat .f64 x)) wa := fun _ => rfl
theorem neg_lt {x : Nat} (h : x < 18446744073709551616) : Op.negFloat .f64 x < 18446744073709551616 :=
  Nat.xor_lt_two_pow (n := 64) h (by decide)
theorem neg_rg {x : Nat} (hx : x < 18446744073709551616) : rg (Op.negFloat .f64 x) = rg x ∧ sg (Op.negFloat .f64 x) = !sg x := by
  have hr : rg x < 9223372036854775808 := by simp only [rg]; omega
  have h1 := split_word hx
  by_cases hs : sg x = true
  · rw [hs] at h1
    have h2 := neg_true hr
    rw [← h1, dW_false] at h2
    rw [h2, hs]
    simp only [rg, sg]
    refine ⟨by omega, ?_⟩
    simp; omega
  · have hs' : sg x = false := Bool.eq_false_iff.2 hs
    rw [hs'] at h1
    have h2 := neg_false hr
    rw [← h1, dW_true] at h2
    rw [h2, hs']
    simp only [rg, sg]
    refine ⟨by omega, ?_⟩
    simp
theorem neg_num {x : Nat} (hx : x < 18446744073709551616) : Num (Op.negFloat .f64 x) ↔ Num x := by
  have := (neg_rg hx).1
  simp only [rg] at this
  unfold Num
  rw [this]
/-- The specification's FloatOf. -/
theorem sOf_any {b : Nat} (hb : b < 18446744073709551616) (w : World) : Calls Try.prog 40 #[.int .u64 b] w fun e w' => ∃ x q, e = .returned (.float .f64 x) ∧ x < 18446744073709551616 ∧ cl x = cl b ∧ w' = w.drewN q := by
  obtain ⟨E, hE⟩ : ∃ E : Nat, E = b % 9223372036854775808 / 4503599627370496 := ⟨_, rfl⟩
  obtain ⟨M, hM⟩ : ∃ M : Nat, M = b % 4503599627370496 := ⟨_, rfl⟩
  have h2 : bits .and .u64 ((b : Int) / 4503599627370496) 2047 = (E : Int) := by
    have := mask_u64 11 (by omega) ((b : Int) / 4503599627370496) (by omega) (by omega)
    rw [show (2 : Int) ^ 11 - 1 = 2047 by decide] at this
    rw [this, hE]
    omega
  have h3 : bits .and .u64 (b : Int) 4503599627370495 = (M : Int) := by
    have := mask_u64 52 (by omega) (b : Int) (by omega) (by omega)
    rw [show (2 : Int) ^ 52 - 1 = 4503599627370495 by decide] at this
    rw [this, hM]
    omega
  have hM0 : (0 : Int) ≤ M := by omega
  have hM1 : (M : Int) < 4503599627370496 := by omega
  have hrg : rg b = E * 4503599627370496 + M := by simp only [rg]; omega
  have hr63 : rg b < 9223372036854775808 := by simp only [rg]; omega
  have hsplit := split_word hb
  -- what stands ahead of the sign
  have key : ∀ (x : Nat), x = rg b → ∀ w', w' = w → (b < 9223372036854775808 → ∃ x' q, Ending.returned (Value.float .f64 x) = .returned (.float .f64 x') ∧ x' < 18446744073709551616 ∧ cl x' = cl b ∧ w' = w.drewN q) := by
    rintro x rfl w' rfl h
    exact ⟨rg b, 0, rfl, by omega, by rw [show rg b = b by simp only [rg]; omega], rfl⟩
  have keyn : ∀ (x : Nat), x = rg b → ∀ w', w' = w → (9223372036854775808 ≤ b → ∃ x' q, Ending.returned (Value.float .f64 (Op.negFloat .f64 x)) = .returned (.float .f64 x') ∧ x' < 18446744073709551616 ∧ cl x' = cl b ∧ w' = w.drewN q) := by
    rintro x rfl w' rfl h
    have h1 := neg_false hr63
    rw [dW_false, dW_true] at h1
    exact ⟨_, 0, rfl, by rw [h1]; omega, by rw [h1, show 9223372036854775808 + rg b = b by simp only [rg]; omega], rfl⟩
  by_cases c1 : E = 2047
  · by_cases c2 : M = 0
    · have hx : 9218868437227405312 = rg b := by rw [hrg, c1, c2]
      by_cases hs : b < 9223372036854775808
      · refine (sOf_inf0 (by omega) h2 h3 hM0 hM1 w (by omega) (by omega)).mono ?_
        rintro e w' ⟨rfl, rfl⟩
        exact key _ hx _ rfl hs
      · refine (sOf_inf1 (by omega) h2 h3 hM0 hM1 w (by omega) (by omega) (neg_run _)).mono ?_
        rintro e w' ⟨rfl, rfl⟩
        exact keyn _ hx _ rfl (by omega)
    · have nb : ¬ Num b := by
        unfold Num
        simp only [rg] at hrg
        omega
      by_cases hs : b < 9223372036854775808
      · refine (sOf_nan0 (by omega) h2 h3 hM0 hM1 w (by omega) (by omega)).mono ?_
        rintro e w' ⟨rfl, rfl⟩
        exact ⟨_, 1, rfl, nanAt_lt _ _ _, by simp [cl, nb, nanAt_nan], rfl⟩
      · refine (sOf_nan1 (by omega) h2 h3 hM0 hM1 w (by omega) (by omega) (neg_run _)).mono ?_
        rintro e w' ⟨rfl, rfl⟩
        refine ⟨_, 1, rfl, neg_lt (nanAt_lt _ _ _), ?_, rfl⟩
        have : ¬ Num (Op.negFloat .f64 (nanAt w 9218868437227405312 9218868437227405312)) := fun h => nanAt_nan _ _ _ ((neg_num (nanAt_lt _ _ _)).1 h)
        simp only [cl, nb, this, if_false]
  · by_cases c2 : E = 0
    · have hF : floatOfInt .f64 (M : Int) = F false M 0 := floatOfInt_F M
      have hP : F false M (-1074) = rg b := by
        have hl : rg b < 4503599627370496 := by rw [hrg, c2]; omega
        have h1 := F_rg false (r := rg b) (by omega)
        rw [show mg (rg b) = M by unfold mg; rw [if_pos hl, hrg, c2]; omega, show pl (rg b) = -1074 by unfold pl; rw [if_pos hl], dW_false] at h1
        exact h1
      have HF : ∀ w, Calls Try.prog 43 #[.float .f64 (floatOfInt .f64 M), .int .i64 (-1074)] w fun e w' => e = .returned (.float .f64 (F false M (-1074))) ∧ w = w' := fun w => times_any hF (by omega) (by omega) (by omega) w
      by_cases hs : b < 9223372036854775808
      · refine (sOf_small0 (by omega) h2 h3 hM0 hM1 w (by omega) HF).mono ?_
        rintro e w' ⟨rfl, rfl⟩
        exact key _ hP _ rfl hs
      · refine (sOf_small1 (by omega) h2 h3 hM0 hM1 w (by omega) HF (neg_run _)).mono ?_
        rintro e w' ⟨rfl, rfl⟩
        exact keyn _ hP _ rfl (by omega)
    · have hF : floatOfInt .f64 ((M : Int) + 4503599627370496) = F false (M + 4503599627370496) 0 := floatOfInt_F (M + 4503599627370496)
      have hP : F false (M + 4503599627370496) ((E : Int) - 1075) = rg b := by
        have hl : ¬ rg b < 4503599627370496 := by rw [hrg]; omega
        have h1 := F_rg false (r := rg b) (by omega)
        rw [show mg (rg b) = M + 4503599627370496 by unfold mg; rw [if_neg hl, hrg]; omega, show pl (rg b) = (E : Int) - 1075 by unfold pl; rw [if_neg hl, hrg]; omega, dW_false] at h1
        exact h1
      have HF : ∀ w, Calls Try.prog 43 #[.float .f64 (floatOfInt .f64 ((M : Int) + 4503599627370496)), .int .i64 ((E : Int) - 1075)] w fun e w' => e = .returned (.float .f64 (F false (M + 4503599627370496) ((E : Int) - 1075))) ∧ w = w' :=
        fun w => times_any hF (by omega) (by omega) (by omega) w
      by_cases hs : b < 9223372036854775808
      · refine (sOf_great0 (by omega) h2 h3 hM0 hM1 w (by omega) (by omega) (by omega) HF).mono ?_
        rintro e w' ⟨rfl, rfl⟩
        exact key _ hP _ rfl hs
      · refine (sOf_great1 (by omega) h2 h3 hM0 hM1 w (by omega) (by omega) (by omega) HF (neg_run _)).mono ?_
        rintro e w' ⟨rfl, rfl⟩
        exact keyn _ hP _ rfl (by omega)
end Go.Proofs.Ytbcidfmfkmeinaa
namespace Go.Proofs.Ytbcidfmfkmeinaa
open Go.RowKit Fl
theorem cl_cases {x y : Nat} (h : cl x = cl y) : (¬ Num x ∧ ¬ Num y) ∨ (x = y ∧ Num x) := by
  unfold cl at h
  by_cases nx : Num x <;> by_cases ny : Num y
  · rw [if_pos nx, if_pos ny] at h
    exact Or.inr ⟨Option.some.inj h, nx⟩
  · rw [if_pos nx, if_neg ny] at h; cases h
  · rw [if_neg nx, if_pos ny] at h; cases h
  · exact Or.inl ⟨nx, ny⟩
theorem cl_same {x : Nat} (h : Num x) {y : Nat} (e : cl x = cl y) : x = y := by
  rcases cl_cases e with ⟨h1, _⟩ | ⟨h1, _⟩
  · exact absurd h h1
  · exact h1
theorem order_self' {x : Nat} (hx : x < 18446744073709551616) (nx : Num x) : FloatKind.f64.format.order x x = some .eq := order_self hx nx
theorem order_nan' {x : Nat} (y : Nat) (hx : x < 18446744073709551616) (nx : ¬ Num x) : FloatKind.f64.format.order x y = none := order_nan_l y hx nx
set_option maxHeartbeats 800000 in
theorem same_any {x y : Nat} (hx : x < 18446744073709551616) (hy : y < 18446744073709551616) (h : cl x = cl y) (w : World) : Calls Try.prog 19 #[.float .f64 x, .float .f64 y] w fun e w' => e = .returned (.bool true) ∧ w = w' := by
  rcases cl_cases h with ⟨nx, ny⟩ | ⟨rfl, nx⟩
  · have h1 := order_nan' x hx nx
    have h2 := order_nan' y hy ny
    clear h nx ny hx hy
    go_enter Try.func19, Try.ntmps19
    go_wp2
    go_ret
    exact ⟨rfl, rfl⟩
  · have h1 := order_self' hx nx
    have h2 := order_zero hx nx
    clear h hy
    by_cases h0 : rg x = 0
    · rw [if_pos h0] at h2
      by_cases hs : 9223372036854775808 ≤ x
      · obtain rfl : x = 9223372036854775808 := by simp only [rg] at h0; omega
        have hq : ∀ t w, (binOp .quo t (.float .f64 4607182418800017408) (.float .f64 9223372036854775808)).run Try.prog w = .ok (.float .f64 18442240474082181120) w := fun t w => run_float_arith w .quo t .f64 _ _ _ one_over_negzero
        have h3 : FloatKind.f64.format.order 18442240474082181120 0 = some .lt := by decide
        clear hx nx h0 hs
        go_enter Try.func19, Try.ntmps19
        go_wp2
        go_ret
        exact ⟨rfl, rfl⟩
      · obtain rfl : x = 0 := by simp only [rg] at h0; omega
        have hq : ∀ t w, (binOp .quo t (.float .f64 4607182418800017408) (.float .f64 0)).run Try.prog w = .ok (.float .f64 9218868437227405312) w := fun t w => run_float_arith w .quo t .f64 _ _ _ one_over_zero
        have h3 : FloatKind.f64.format.order 9218868437227405312 0 = some .gt := by decide
        clear hx nx h0 hs h2
        go_enter Try.func19, Try.ntmps19
        go_wp2
        go_ret
        exact ⟨rfl, rfl⟩
    · rw [if_neg h0] at h2
      by_cases hs : sg x = true
      · rw [if_pos hs] at h2
        clear hx nx h0 hs
        go_enter Try.func19, Try.ntmps19
        go_wp2
        go_ret
        exact ⟨rfl, rfl⟩
      · rw [if_neg hs] at h2
        clear hx nx h0 hs
        go_enter Try.func19, Try.ntmps19
        go_wp2
        go_ret
        exact ⟨rfl, rfl⟩
end Go.Proofs.Ytbcidfmfkmeinaa
namespace Go.Proofs.Ytbcidfmfkmeinaa
open Go.RowKit Fl
set_option linter.unusedSimpArgs false
theorem cl_fb (x : Nat) : cl (fb x) = cl x := by
  unfold fb
  by_cases h : Num x
  · rw [if_pos h]
  · rw [if_neg h]
    simp only [cl, h, if_false]
    decide
theorem fb_num {x : Nat} (h : Num x) : fb x = x := by unfold fb; rw [if_pos h]
theorem fb_nan {x : Nat} (h : ¬ Num x) : fb x = 9221120237041090560 := by unfold fb; rw [if_neg h]
theorem cl_num {x : Nat} (h : Num x) : cl x = some x := by simp [cl, h]
theorem cl_nan {x : Nat} (h : ¬ Num x) : cl x = none := by simp [cl, h]
end Go.Proofs.Ytbcidfmfkmeinaa
namespace Go.Proofs.Ytbcidfmfkmeinaa
open Go.RowKit Fl
theorem ret_i64 {a b : Int} (h : a = b) : Ending.returned (.int .i64 a) = .returned (.int .i64 b) := by rw [h]
end Go.Proofs.Ytbcidfmfkmeinaa
namespace Go.Proofs.Ytbcidfmfkmeinaa
open Go.RowKit Fl
abbrev Says (f : FuncId) (x : Nat) (b : Bool) : Prop := ∀ w, Calls Try.prog f #[.float .f64 x] w fun e w' => e = .returned (.bool b) ∧ w = w'
theorem nan_t {x : Nat} (hx : x < 18446744073709551616) (n : ¬ Num x) : Says 39 x true := fun w => by
  have := l3NaN_any hx w
  rw [decide_eq_true n] at this
  exact this
theorem nan_f {x : Nat} (hx : x < 18446744073709551616) (n : Num x) : Says 39 x false := fun w => by
  have := l3NaN_any hx w
  rw [decide_eq_false (by simpa using n)] at this
  exact this
theorem neg_s {x : Nat} (hx : x < 18446744073709551616) (n : Num x) {b : Bool} (h : sg x = b) : Says 38 x b := fun w => by
  rw [← h]; exact l3Neg_any hx n w
end Go.Proofs.Ytbcidfmfkmeinaa
namespace Go.Proofs.Ytbcidfmfkmeinaa.Fl
/-- The first j pairs of digits of m * 2^54, of 54. -/
def pre (m j : Nat) : Nat := if j ≤ 27 then m / 4 ^ (27 - j) else m * 4 ^ (j - 27)
/-- The pair behind them. -/
def two (m j : Nat) : Nat := if j ≤ 26 then m / 4 ^ (26 - j) % 4 else 0
theorem pre_zero {m : Nat} (h : m < 18014398509481984) : pre m 0 = 0 := by
  unfold pre
  rw [if_pos (by omega)]
  exact Nat.div_eq_of_lt (by rw [show (4 ^ (27 - 0) : Nat) = 18014398509481984 by decide]; exact h)
theorem pre_succ (m j : Nat) : pre m (j + 1) = 4 * pre m j + two m j := by
  unfold pre two
  by_cases h1 : j ≤ 26
  · rw [if_pos (by omega), if_pos (by omega), if_pos h1, show 27 - (j + 1) = 26 - j by omega, show 27 - j = (26 - j) + 1 by omega, Nat.pow_succ, ← Nat.div_div_eq_div_mul]
    omega
  · rw [if_neg h1, if_neg (by omega)]
    by_cases h2 : j = 27
    · subst h2; simp; omega
    · rw [if_neg (by omega), show j + 1 - 27 = (j - 27) + 1 by omega, Nat.pow_succ]
      generalize 4 ^ (j - 27) = z
      rw [show m * (z * 4) = 4 * (m * z) by ac_rfl]
      omega
theorem pre_last (m : Nat) : pre m 54 = m * 18014398509481984 := by
  unfold pre
  rw [if_neg (by omega)]
theorem pre_le {m j : Nat} (h : m < 18014398509481984) (hj : j ≤ 54) : pre m j < 18014398509481984 * 18014398509481984 := by
  have h0 : pre m j * 4 ^ (54 - j) ≤ pre m 54 := by
    obtain ⟨d, hd⟩ : ∃ d, 54 - j = d := ⟨_, rfl⟩
    rw [hd]
    have : 54 = j + d := by omega
    rw [this]
    clear hd this hj
    induction d with
    | zero => simp
    | succ d ih =>
      rw [show j + (d + 1) = (j + d) + 1 by omega, pre_succ, Nat.pow_succ]
      rw [show pre m j * (4 ^ d * 4) = 4 * (pre m j * 4 ^ d) by ac_rfl]
      omega
  have h1 : 0 < 4 ^ (54 - j) := Nat.pow_pos (by omega)
  have h2 := Nat.le_mul_of_pos_right (pre m j) h1
  rw [pre_last] at h0
  have h3 : m * 18014398509481984 < 18014398509481984 * 18014398509481984 := Nat.mul_lt_mul_of_pos_right h (by omega)
  omega
theorem two_lt (m j : Nat) : two m j < 4 := by unfold two; split <;> omega
theorem digit_no {r q p t : Nat} (h : r * r + q = p) (_hq : q ≤ 2 * r) (hn : q * 4 + t < r * 4 + 1) : (r * 2) * (r * 2) + (q * 4 + t) = 4 * p + t ∧ q * 4 + t ≤ 2 * (r * 2) := by
  refine ⟨?_, by omega⟩
  rw [← h, show r * 2 * (r * 2) = 4 * (r * r) by rw [show (4 : Nat) = 2 * 2 by decide]; ac_rfl]
  omega
theorem digit_yes {r q p t : Nat} (h : r * r + q = p) (hq : q ≤ 2 * r) (ht : t < 4) (hn : r * 4 + 1 ≤ q * 4 + t) : (r * 2 + 1) * (r * 2 + 1) + (q * 4 + t - (r * 4 + 1)) = 4 * p + t ∧ q * 4 + t - (r * 4 + 1) ≤ 2 * (r * 2 + 1) := by
  refine ⟨?_, by omega⟩
  rw [← h, show (r * 2 + 1) * (r * 2 + 1) = 4 * (r * r) + r * 4 + 1 by
    rw [Nat.add_mul, Nat.mul_add, show r * 2 * (r * 2) = 4 * (r * r) by rw [show (4 : Nat) = 2 * 2 by decide]; ac_rfl]
    omega]
  omega
theorem root_lt {r q p : Nat} (h : r * r + q = p) (hp : p < 18014398509481984 * 18014398509481984) : r < 18014398509481984 := by
  refine sq_lt (Nat.lt_of_le_of_lt ?_ hp)
  omega
theorem root_end {r q p : Nat} (h : r * r + q = p) (hq : q ≤ 2 * r) : r * r ≤ p ∧ p < (r + 1) * (r + 1) := by
  refine ⟨by omega, ?_⟩
  rw [Nat.add_mul, Nat.mul_add]
  omega
end Go.Proofs.Ytbcidfmfkmeinaa.Fl
namespace Go.Proofs.Ytbcidfmfkmeinaa
open Go.RowKit Fl
set_option linter.unusedVariables false
theorem wraps_i64 (n : Int) (h₀ : 0 ≤ n) (h₁ : n < 2 ^ 63) : IntKind.i64.wrap n = n := by rw [IntKind.wrap_i64]; omega
theorem pair_bits {m j : Nat} {M : Int} (hm : m < 18014398509481984) (hM : M = m) (hj : j ≤ 26) : bits .and .i64 (M / 2 ^ (2 * (26 - j))) 3 = ((two m j : Nat) : Int) := by
  have e : M / 2 ^ (2 * (26 - j)) = ((m / 4 ^ (26 - j) : Nat) : Int) := by
    rw [hM, Int.natCast_ediv, show (4 : Nat) = 2 ^ 2 by decide, ← Nat.pow_mul]
    simp
  rw [e]
  have h1 : m / 4 ^ (26 - j) ≤ m := Nat.div_le_self _ _
  unfold two
  rw [if_pos hj]
  generalize m / 4 ^ (26 - j) = z at h1 ⊢
  have := bits_mask .i64 63 (by decide) wraps_i64 2 (by omega) (z : Int) (by omega) (by omega)
  rw [show (2 : Int) ^ 2 - 1 = 3 by decide, show (2 : Int) ^ 2 = 4 by decide] at this
  rw [this]
  omega
set_option maxHeartbeats 1600000 in
theorem root_any {m : Nat} {M : Int} (hm : m < 18014398509481984) (hM : M = m) (h0 : 0 ≤ M) (hM2 : M < 18014398509481984) (w : World) :
    Calls Try.prog 44 #[.int .i64 M] w fun e w' => ∃ R : Nat, e = .returned (.int .i64 R) ∧ R * R ≤ m * 18014398509481984 ∧ m * 18014398509481984 < (R + 1) * (R + 1) ∧ w = w' := by
  have HM : Hid (m < 18014398509481984 ∧ M = m) := ⟨hm, hM⟩
  clear hm hM
  go_enter Try.func44, Try.ntmps44
  go_wp2
  go_loopw [3, 4, 5] (fun a b c wr => wr = w ∧ ∃ (j : Nat) (R Q K : Int), a = .int .i64 R ∧ b = .int .i64 Q ∧ c = .int .i64 K ∧ K = 26 - j ∧ j ≤ 54 ∧ 0 ≤ R ∧ R < 18014398509481984 ∧ 0 ≤ Q ∧ Q ≤ 2 * R ∧ Hid (∃ r q : Nat, R = r ∧ Q = q ∧ r * r + q = pre m j ∧ q ≤ 2 * r)) (fun _ _ c _ => (intOf c + 100).toNat)
  case atStart => exact ⟨rfl, 0, 0, 0, 26, rfl, rfl, rfl, by omega, by omega, by omega, by omega, by omega, by omega, 0, 0, rfl, rfl, by rw [pre_zero HM.out.1], by omega⟩
  case round =>
    obtain ⟨rfl, j, R, Q, K, rfl, rfl, rfl, hK, hj, hR, hR2, hQ, hQ2, HR⟩ := hrel
    by_cases h : -27 ≤ K
    · obtain ⟨T, hT⟩ : ∃ T : Int, T = (two m j : Nat) := ⟨_, rfl⟩
      have ht := two_lt m j
      have hT0 : 0 ≤ T := by omega
      have hT3 : T ≤ 3 := by omega
      have HN : Hid ((Q * 4 + T < R * 4 + 1 → R * 2 < 18014398509481984 ∧ ∃ r q : Nat, R * 2 = r ∧ Q * 4 + T = q ∧ r * r + q = pre m (j + 1) ∧ q ≤ 2 * r) ∧
          (R * 4 + 1 ≤ Q * 4 + T → R * 2 + 1 < 18014398509481984 ∧ ∃ r q : Nat, R * 2 + 1 = r ∧ Q * 4 + T - (R * 4 + 1) = q ∧ r * r + q = pre m (j + 1) ∧ q ≤ 2 * r)) := by
        obtain ⟨r, q, e1, e2, e3, e4⟩ := HR.out
        have hp := pre_le (j := j + 1) HM.out.1 (by omega)
        rw [pre_succ] at hp ⊢
        constructor
        · intro hn
          obtain ⟨d1, d2⟩ := digit_no (t := two m j) e3 e4 (by omega)
          have := root_lt d1 hp
          exact ⟨by omega, r * 2, q * 4 + two m j, by omega, by omega, d1, d2⟩
        · intro hn
          obtain ⟨d1, d2⟩ := digit_yes (t := two m j) e3 e4 ht (by omega)
          have := root_lt d1 hp
          exact ⟨by omega, r * 2 + 1, q * 4 + two m j - (r * 4 + 1), by omega, by omega, d1, d2⟩
      by_cases hk : 0 ≤ K
      · have hB : bits .and .i64 (M / 2 ^ (2 * (26 - j))) 3 = T := by
          rw [hT]; exact pair_bits HM.out.1 HM.out.2 (by omega)
        clear hT ht HR
        by_cases hn : Q * 4 + T < R * 4 + 1
        · obtain ⟨n1, n2⟩ := HN.out.1 hn
          have HN' : Hid (∃ r q : Nat, R * 2 = r ∧ Q * 4 + T = q ∧ r * r + q = pre m (j + 1) ∧ q ≤ 2 * r) := n2
          clear HN n2
          go_wp2
          go_roundw
          case rel => exact ⟨by trivial, j + 1, R * 2, Q * 4 + T, 26 - (j + 1 : Nat), rfl, rfl, by congr 1; omega, rfl, by omega, by omega, by omega, by omega, by omega, HN'.out⟩
          case measure => simp [intOf]; omega
        · obtain ⟨n1, n2⟩ := HN.out.2 (by omega)
          have HN' : Hid (∃ r q : Nat, R * 2 + 1 = r ∧ Q * 4 + T - (R * 4 + 1) = q ∧ r * r + q = pre m (j + 1) ∧ q ≤ 2 * r) := n2
          clear HN n2
          go_wp2
          go_roundw
          case rel => exact ⟨by trivial, j + 1, R * 2 + 1, Q * 4 + T - (R * 4 + 1), 26 - (j + 1 : Nat), rfl, rfl, by congr 1; omega, rfl, by omega, by omega, by omega, by omega, by omega, HN'.out⟩
          case measure => simp [intOf]; omega
      · obtain rfl : T = 0 := by
          rw [hT]; unfold two; rw [if_neg (by omega)]; rfl
        clear hT ht HR
        by_cases hn : Q * 4 + 0 < R * 4 + 1
        · obtain ⟨n1, n2⟩ := HN.out.1 hn
          have HN' : Hid (∃ r q : Nat, R * 2 = r ∧ Q * 4 + 0 = q ∧ r * r + q = pre m (j + 1) ∧ q ≤ 2 * r) := n2
          clear HN n2
          go_wp2
          go_roundw
          case rel => exact ⟨by trivial, j + 1, R * 2, Q * 4 + 0, 26 - (j + 1 : Nat), rfl, by congr 1; omega, by congr 1; omega, rfl, by omega, by omega, by omega, by omega, by omega, HN'.out⟩
          case measure => simp [intOf]; omega
        · obtain ⟨n1, n2⟩ := HN.out.2 (by omega)
          have HN' : Hid (∃ r q : Nat, R * 2 + 1 = r ∧ Q * 4 + 0 - (R * 4 + 1) = q ∧ r * r + q = pre m (j + 1) ∧ q ≤ 2 * r) := n2
          clear HN n2
          go_wp2
          go_roundw
          case rel => exact ⟨by trivial, j + 1, R * 2 + 1, Q * 4 + 0 - (R * 4 + 1), 26 - (j + 1 : Nat), rfl, by congr 1; omega, by congr 1; omega, rfl, by omega, by omega, by omega, by omega, by omega, HN'.out⟩
          case measure => simp [intOf]; omega
    · obtain rfl : j = 54 := by omega
      go_wp2
      go_ret
      obtain ⟨r, q, e1, e2, e3, e4⟩ := HR.out
      rw [pre_last] at e3
      obtain ⟨d1, d2⟩ := root_end e3 e4
      exact ⟨r, congrArg (fun z => Ending.returned (Value.int .i64 z)) e1, d1, d2, rfl⟩
end Go.Proofs.Ytbcidfmfkmeinaa
namespace Go.Proofs.Ytbcidfmfkmeinaa
open Go.RowKit Fl
set_option linter.unusedVariables false
/-- The root of a float, all NaNs being one. -/
def sqC (x : Nat) : Option Nat := (Ieee.double.sqrt x).bind cl
theorem sqrt_nan {x : Nat} (hx : x < 18446744073709551616) (n : ¬ Num x) : Ieee.double.sqrt x = none := by
  unfold Ieee.Format.sqrt
  rw [read_not_num hx n]
  rfl
theorem sqrt_zero {x : Nat} (hx : x < 18446744073709551616) (h : rg x = 0) : Ieee.double.sqrt x = some x := by
  have : x = 0 ∨ x = 9223372036854775808 := by simp only [rg] at h; omega
  rcases this with rfl | rfl <;> decide
theorem sqrt_inf : Ieee.double.sqrt 9218868437227405312 = some 9218868437227405312 := by decide
theorem sqrt_neg {x : Nat} (hx : x < 18446744073709551616) (n : Num x) (h0 : rg x ≠ 0) (hs : sg x = true) : Ieee.double.sqrt x = none := by
  have h1 := split_word hx
  rw [hs] at h1
  unfold Ieee.Format.sqrt
  by_cases hi : rg x = 9218868437227405312
  · rw [hi] at h1
    rw [h1, read_inf]; rfl
  · have hr : rg x < 9218868437227405312 := by unfold Num at n; simp only [rg] at hi ⊢; omega
    rw [h1, read_word true hr]
    have := mg_pos (r := rg x) (by omega)
    simp only [Ieee.Datum.root]
    rw [if_neg (by omega)]
    rfl
theorem sqrt67 {x v : Nat} (h : Ieee.double.sqrt x = some v) (w : World) : (callFunc 51 #[.float .f64 x]).run Try.prog w = .ok (.value (.float .f64 v)) w := by
  rw [run_callFunc_extern Try.func51 (by kernel_rfl) (by kernel_rfl) (by kernel_rfl) (e := Extern.MathSqrt.sqrt) (by kernel_rfl)]
  have h' : FloatKind.f64.format.sqrt x = some v := h
  show (Sem.run Try.prog (match FloatKind.f64.format.sqrt x with
    | some r => pure (Value.float .f64 r)
    | none => do pure (Value.float .f64 (← choose (.nanBits .f64 x x)))) w).andThen _ = _
  rw [h']
  rfl
theorem sqrt67_none {x : Nat} (h : Ieee.double.sqrt x = none) (w : World) : (callFunc 51 #[.float .f64 x]).run Try.prog w = .ok (.value (.float .f64 (nanAt w x x))) w.drew := by
  rw [run_callFunc_extern Try.func51 (by kernel_rfl) (by kernel_rfl) (by kernel_rfl) (e := Extern.MathSqrt.sqrt) (by kernel_rfl)]
  have h' : FloatKind.f64.format.sqrt x = none := h
  show (Sem.run Try.prog (match FloatKind.f64.format.sqrt x with
    | some r => pure (Value.float .f64 r)
    | none => do pure (Value.float .f64 (← choose (.nanBits .f64 x x)))) w).andThen _ = _
  rw [h']
  simp [nanAt, Question.forced, Result.andThen]
theorem mSqrt_some {x v : Nat} (h : Ieee.double.sqrt x = some v) (w : World) : Calls Try.prog 50 #[.float .f64 x] w fun e w' => e = .returned (.float .f64 v) ∧ w = w' := by
  have h1 := sqrt67 h
  clear h
  go_enter Try.func50, Try.ntmps50
  go_wp2
  go_ret
  exact ⟨rfl, rfl⟩
theorem mSqrt_none {x : Nat} (h : Ieee.double.sqrt x = none) (w : World) : Calls Try.prog 50 #[.float .f64 x] w fun e w' => e = .returned (.float .f64 (nanAt w x x)) ∧ w.drew = w' := by
  have h1 := sqrt67_none h
  clear h
  go_enter Try.func50, Try.ntmps50
  go_wp2
  go_ret
  exact ⟨rfl, rfl⟩
theorem iSqrt_some {x v : Nat} (h : Ieee.double.sqrt x = some v) (w : World) : Calls Try.prog 48 #[.float .f64 x] w fun e w' => e = .returned (.float .f64 v) ∧ w = w' := by
  go_enter Try.func48, Try.ntmps48
  go_wp2_with fail
  refine (mSqrt_some h _).mono ?_
  rintro e w1 ⟨rfl, rfl⟩
  clear h
  go_wp2
  go_ret
  exact ⟨rfl, rfl⟩
theorem iSqrt_none {x : Nat} (h : Ieee.double.sqrt x = none) (w : World) : Calls Try.prog 48 #[.float .f64 x] w fun e w' => e = .returned (.float .f64 (nanAt w x x)) ∧ w.drew = w' := by
  go_enter Try.func48, Try.ntmps48
  go_wp2_with fail
  refine (mSqrt_none h _).mono ?_
  rintro e w1 ⟨rfl, rfl⟩
  clear h
  go_wp2
  go_ret
  exact ⟨rfl, rfl⟩
theorem sqrt_lt {x v : Nat} (h : Ieee.double.sqrt x = some v) : v < 18446744073709551616 := by
  have := Ieee.double.sqrt_lt h
  exact this
theorem iSqrt_any (x : Nat) (w : World) : Calls Try.prog 48 #[.float .f64 x] w fun e w' => ∃ v q, e = .returned (.float .f64 v) ∧ v < 18446744073709551616 ∧ cl v = sqC x ∧ w' = w.drewN q := by
  cases h : Ieee.double.sqrt x with
  | some v =>
    refine (iSqrt_some h w).mono ?_
    rintro e w' ⟨rfl, rfl⟩
    exact ⟨v, 0, rfl, sqrt_lt h, by simp [sqC, h], rfl⟩
  | none =>
    refine (iSqrt_none h w).mono ?_
    rintro e w' ⟨rfl, rfl⟩
    exact ⟨_, 1, rfl, nanAt_lt _ _ _, by rw [cl_nan (nanAt_nan _ _ _)]; simp [sqC, h], rfl⟩
theorem sSqrt_nan {x : Nat} (H : Says 39 x true) (w : World) : Calls Try.prog 28 #[.float .f64 x] w fun e w' => e = .returned (.float .f64 x) ∧ w = w' := by
  go_enter Try.func28, Try.ntmps28
  go_wp2_with fail
  refine (H _).mono ?_
  rintro e w1 ⟨rfl, rfl⟩
  go_wp2
  go_ret
  exact ⟨rfl, rfl⟩
theorem sSqrt_zero {x : Nat} (H : Says 39 x false) (ho : FloatKind.f64.format.order x 0 = some .eq) (w : World) : Calls Try.prog 28 #[.float .f64 x] w fun e w' => e = .returned (.float .f64 x) ∧ w = w' := by
  go_enter Try.func28, Try.ntmps28
  go_wp2_with fail
  refine (H _).mono ?_
  rintro e w1 ⟨rfl, rfl⟩
  go_wp2
  go_ret
  exact ⟨rfl, rfl⟩
theorem sSqrt_neg {x : Nat} (H : Says 39 x false) (ho : FloatKind.f64.format.order x 0 = some .lt) (w : World) : Calls Try.prog 28 #[.float .f64 x] w fun e w' => ∃ v q, e = .returned (.float .f64 v) ∧ v < 18446744073709551616 ∧ cl v = none ∧ w' = w.drewN q := by
  have HO : Hid (∀ w, Calls Try.prog 40 #[.int .u64 9221120237041090560] w fun e w' => ∃ x q, e = .returned (.float .f64 x) ∧ x < 18446744073709551616 ∧ cl x = none ∧ w' = w.drewN q) := fun w => by
    have := sOf_any (b := 9221120237041090560) (by omega) w
    rw [cl_nan (by decide)] at this
    exact this
  go_enter Try.func28, Try.ntmps28
  go_wp2_with fail
  refine (H _).mono ?_
  rintro e w1 ⟨rfl, rfl⟩
  clear H
  go_wp2_with fail
  refine (HO.out _).mono ?_
  rintro e w1 ⟨v, q, rfl, hv, hc, rfl⟩
  have HC : Hid (cl v = none) := hc
  clear hc ho
  go_wp2
  go_ret
  exact ⟨v, q, rfl, hv, HC.out, rfl⟩
theorem sSqrt_inf {x : Nat} (H : Says 39 x false) (ho : FloatKind.f64.format.order x 0 = some .gt) (G : Says 41 x true) (w : World) : Calls Try.prog 28 #[.float .f64 x] w fun e w' => e = .returned (.float .f64 x) ∧ w = w' := by
  go_enter Try.func28, Try.ntmps28
  go_wp2_with fail
  refine (H _).mono ?_
  rintro e w1 ⟨rfl, rfl⟩
  go_wp2_with fail
  refine (G _).mono ?_
  rintro e w1 ⟨rfl, rfl⟩
  go_wp2
  go_ret
  exact ⟨rfl, rfl⟩
theorem even_t {e : Int} (h : e % 2 = 0) : e.tmod 2 = 0 ∧ e.tdiv 2 = e / 2 := by
  obtain ⟨k, rfl⟩ : ∃ k, e = 2 * k := ⟨e / 2, by omega⟩
  exact ⟨Int.mul_tmod_right 2 k, by rw [Int.mul_tdiv_cancel_left k (by omega)]; omega⟩
theorem odd_t {e : Int} (h : ¬ e % 2 = 0) : e.tmod 2 ≠ 0 := by
  intro k
  have := Int.mul_tdiv_add_tmod e 2
  omega
/-- What comes behind the loop: the root of m1 * 2^54 and its place. -/
theorem tail_fits {x : Nat} (h0 : 0 < x) (hr : x < 9218868437227405312) {c m1 : Nat} {e1 : Int} (hm : m1 = mg x * 2 ^ c) (he : e1 = pl x - c) (h1 : 4503599627370496 ≤ m1) (h2 : m1 + 2 ≤ 18014398509481984) (hev : e1 % 2 = 0) (hc : c ≤ 54) {R : Nat}
    (hR : R * R ≤ m1 * 18014398509481984) (hR' : m1 * 18014398509481984 < (R + 1) * (R + 1)) {v : Nat} (hv : Ieee.double.sqrt x = some v) (w : World) :
    Calls Try.prog 43 #[.float .f64 (floatOfInt .f64 (((R + 1) / 2 : Nat) : Int)), .int .i64 (e1 / 2 - 26)] w fun e w' => e = .returned (.float .f64 v) ∧ w = w' := by
  obtain ⟨b1, b2⟩ := half_bounds h1 h2 hR hR'
  have hp := pl_ge x
  have hp2 := pl_le hr
  have hsq := sqrt_word h0 hr hm he h1 h2 hev hR hR'
  rw [dW_false, hv] at hsq
  rw [Option.some.inj hsq]
  exact times_any (floatOfInt_F _) b2 (by omega) (by omega) w
set_option maxHeartbeats 1600000 in
theorem sSqrt_fin {x v : Nat} (H : Says 39 x false) (ho : FloatKind.f64.format.order x 0 = some .gt) (G : Says 41 x false) (h0 : 0 < x) (hr : x < 9218868437227405312) (hv : Ieee.double.sqrt x = some v) (w : World) :
    Calls Try.prog 28 #[.float .f64 x] w fun e w' => e = .returned (.float .f64 v) ∧ w = w' := by
  have hmp := mg_pos h0
  have hml := mg_lt x
  have hp := pl_ge x
  have hp2 := pl_le hr
  obtain ⟨M0, hM0⟩ : ∃ M0 : Int, M0 = (mg x : Nat) := ⟨_, rfl⟩
  obtain ⟨P0, hP0⟩ : ∃ P0 : Int, P0 = pl x := ⟨_, rfl⟩
  have HP : Hid (∀ w, Calls Try.prog 42 #[.float .f64 x] w fun e w' => e = .returned (.tuple #[.int .i64 M0, .int .i64 P0]) ∧ w = w') := fun w => by
    rw [hM0, hP0]; exact parts_all hr w
  have HX : Hid (0 < x ∧ x < 9218868437227405312 ∧ M0 = (mg x : Nat) ∧ P0 = pl x ∧ Ieee.double.sqrt x = some v) := ⟨h0, hr, hM0, hP0, hv⟩
  have m1 : 1 ≤ M0 := by omega
  have m2 : M0 < 9007199254740992 := by omega
  have p1 : -1074 ≤ P0 := by omega
  have p2 : P0 ≤ 971 := by omega
  clear h0 hr hM0 hP0 hv hmp hml hp hp2
  go_enter Try.func28, Try.ntmps28
  go_wp2_with fail
  refine (H _).mono ?_
  rintro e w1 ⟨rfl, rfl⟩
  go_wp2_with fail
  refine (G _).mono ?_
  rintro e w1 ⟨rfl, rfl⟩
  clear H G
  go_wp2_with fail
  refine (HP.out _).mono ?_
  rintro e w1 ⟨rfl, rfl⟩
  clear HP ho
  go_wp2
  go_loopw [3, 4] (fun a b wr => wr = w ∧ ∃ (m e : Int), a = .int .i64 m ∧ b = .int .i64 e ∧ 1 ≤ m ∧ m < 9007199254740992 ∧ -1200 ≤ e ∧ e ≤ 971 ∧ Hid (∃ c : Nat, m = ((mg x * 2 ^ c : Nat) : Int) ∧ e = pl x - c ∧ c ≤ 53)) (fun a _ _ => (9007199254740992 - intOf a).toNat)
  case atStart =>
    refine ⟨rfl, M0, P0, rfl, rfl, m1, m2, by omega, p2, 0, ?_, ?_, by omega⟩
    · rw [HX.out.2.2.1]; simp
    · rw [HX.out.2.2.2.1]; simp
  case round =>
    obtain ⟨rfl, m, e, rfl, rfl, a1, a2, a3, a4, HC⟩ := hrel
    by_cases h : m < 4503599627370496
    · have HC' : Hid (∃ c : Nat, m * 2 = ((mg x * 2 ^ c : Nat) : Int) ∧ e - 1 = pl x - c ∧ c ≤ 53) := by
        obtain ⟨c, c1, c2, c3⟩ := HC.out
        refine ⟨c + 1, ?_, by omega, ?_⟩
        · rw [Nat.pow_succ, ← Nat.mul_assoc]; omega
        · have h1 : 2 ^ c ≤ mg x * 2 ^ c := Nat.le_mul_of_pos_left _ (mg_pos HX.out.1)
          have h2 : 2 ^ c < 2 ^ 52 := by omega
          have := (Nat.pow_lt_pow_iff_right (a := 2) (by omega)).1 h2
          omega
      have a5 : -1200 ≤ e - 1 := by
        obtain ⟨c, c1, c2, c3⟩ := HC'.out
        have := pl_ge x
        omega
      clear HC
      go_wp2
      go_roundw
      case rel => exact ⟨by trivial, m * 2, e - 1, rfl, rfl, by omega, by omega, a5, by omega, HC'⟩
      case measure => simp [intOf]; omega
    · by_cases hev : e % 2 = 0
      · have ht := (even_t hev).1
        have hd := (even_t hev).2
        obtain ⟨m', hm'⟩ : ∃ m' : Nat, m = m' := ⟨(m).toNat, by omega⟩
        have HR' : Hid (∀ w, Calls Try.prog 44 #[.int .i64 (m)] w fun e w' => ∃ R : Nat, e = .returned (.int .i64 R) ∧ R * R ≤ m' * 18014398509481984 ∧ m' * 18014398509481984 < (R + 1) * (R + 1) ∧ w = w') := root_any (m := m') (M := m) (by omega) hm' (by omega) (by omega)
        have HM : Hid (m = m') := hm'
        clear hm'
        go_wp2_with fail
        refine (HR'.out _).mono ?_
        rintro e' w1 ⟨R, rfl, hR, hR', rfl⟩
        have HT : Hid (∀ w, Calls Try.prog 43 #[.float .f64 (floatOfInt .f64 (((R + 1) / 2 : Nat) : Int)), .int .i64 ((e) / 2 - 26)] w fun e w' => e = .returned (.float .f64 v) ∧ w = w') := fun w => by
          obtain ⟨c, c1, c2, c3⟩ := HC.out
          have := HM.out
          exact tail_fits (c := c) (m1 := m') HX.out.1 HX.out.2.1 (by omega) c2 (by omega) (by omega) hev (by omega) hR hR' HX.out.2.2.2.2 w
        obtain ⟨hb1, hb2⟩ := root_bounds (m1 := m') (R := R) (by have := HM.out; omega) (by have := HM.out; omega) hR hR'
        obtain ⟨Z, hZ⟩ : ∃ Z : Int, Z = (R : Int) := ⟨_, rfl⟩
        have hz : ((((R + 1) / 2 : Nat) : Int)) = (Z + 1) / 2 := by omega
        rw [hz] at HT
        rw [← hZ]
        have z1 : 0 ≤ Z := by omega
        have z2 : Z < 18014398509481984 := by omega
        have z3 : (Z + 1).tdiv 2 = (Z + 1) / 2 := Int.tdiv_eq_ediv_of_nonneg (by omega)
        clear HR' hR hR' HM HC hZ hz hb1 hb2 HX
        go_wp2_with fail
        refine (HT.out _).mono ?_
        rintro e' w1 ⟨rfl, rfl⟩
        clear HT
        go_wp2
        go_ret
        exact ⟨rfl, rfl⟩
      · have ht := odd_t hev
        have hd := (even_t (e := e - 1) (by omega)).2
        obtain ⟨m', hm'⟩ : ∃ m' : Nat, m * 2 = m' := ⟨(m * 2).toNat, by omega⟩
        have HR' : Hid (∀ w, Calls Try.prog 44 #[.int .i64 (m * 2)] w fun e w' => ∃ R : Nat, e = .returned (.int .i64 R) ∧ R * R ≤ m' * 18014398509481984 ∧ m' * 18014398509481984 < (R + 1) * (R + 1) ∧ w = w') := root_any (m := m') (M := m * 2) (by omega) hm' (by omega) (by omega)
        have HM : Hid (m * 2 = m') := hm'
        clear hm'
        go_wp2_with fail
        refine (HR'.out _).mono ?_
        rintro e' w1 ⟨R, rfl, hR, hR', rfl⟩
        have HT : Hid (∀ w, Calls Try.prog 43 #[.float .f64 (floatOfInt .f64 (((R + 1) / 2 : Nat) : Int)), .int .i64 ((e - 1) / 2 - 26)] w fun e w' => e = .returned (.float .f64 v) ∧ w = w') := fun w => by
          obtain ⟨c, c1, c2, c3⟩ := HC.out
          have := HM.out
          have e3 : m' = mg x * 2 ^ (c + 1) := by
            rw [Nat.pow_succ, ← Nat.mul_assoc]; omega
          exact tail_fits (c := c + 1) (m1 := m') HX.out.1 HX.out.2.1 e3 (by omega) (by omega) (by omega) (by omega) (by omega) hR hR' HX.out.2.2.2.2 w
        obtain ⟨hb1, hb2⟩ := root_bounds (m1 := m') (R := R) (by have := HM.out; omega) (by have := HM.out; omega) hR hR'
        obtain ⟨Z, hZ⟩ : ∃ Z : Int, Z = (R : Int) := ⟨_, rfl⟩
        have hz : ((((R + 1) / 2 : Nat) : Int)) = (Z + 1) / 2 := by omega
        rw [hz] at HT
        rw [← hZ]
        have z1 : 0 ≤ Z := by omega
        have z2 : Z < 18014398509481984 := by omega
        have z3 : (Z + 1).tdiv 2 = (Z + 1) / 2 := Int.tdiv_eq_ediv_of_nonneg (by omega)
        clear HR' hR hR' HM HC hZ hz hb1 hb2 HX
        go_wp2_with fail
        refine (HT.out _).mono ?_
        rintro e' w1 ⟨rfl, rfl⟩
        clear HT
        go_wp2
        go_ret
        exact ⟨rfl, rfl⟩
theorem isInf_s {x : Nat} (hx : x < 18446744073709551616) (n : Num x) {b : Bool} (h : decide (rg x = 9218868437227405312) = b) : Says 41 x b := fun w => by
  rw [← h]; exact l3IsInf_any hx n w
theorem sSqrt_any {x : Nat} (hx : x < 18446744073709551616) (w : World) : Calls Try.prog 28 #[.float .f64 x] w fun e w' => ∃ v q, e = .returned (.float .f64 v) ∧ v < 18446744073709551616 ∧ cl v = sqC x ∧ w' = w.drewN q := by
  by_cases n : Num x
  · have H := nan_f hx n
    have ho := order_zero hx n
    by_cases h0 : rg x = 0
    · rw [if_pos h0] at ho
      refine (sSqrt_zero H ho w).mono ?_
      rintro e w' ⟨rfl, rfl⟩
      exact ⟨x, 0, rfl, hx, by simp [sqC, sqrt_zero hx h0], rfl⟩
    · rw [if_neg h0] at ho
      by_cases hs : sg x = true
      · rw [if_pos hs] at ho
        have : sqC x = none := by simp [sqC, sqrt_neg hx n h0 hs]
        rw [this]
        exact sSqrt_neg H ho w
      · rw [if_neg hs] at ho
        have hl : x < 9223372036854775808 := by simp only [sg, decide_eq_true_eq] at hs; omega
        by_cases hi : rg x = 9218868437227405312
        · have e : x = 9218868437227405312 := by simp only [rg] at hi; omega
          refine (sSqrt_inf H ho (isInf_s hx n (decide_eq_true hi)) w).mono ?_
          rintro e w' ⟨rfl, rfl⟩
          exact ⟨x, 0, rfl, hx, by rw [sqC, e, sqrt_inf]; rfl, rfl⟩
        · have h00 : 0 < x := by simp only [rg] at h0; omega
          have hr : x < 9218868437227405312 := by unfold Num at n; simp only [rg] at hi; omega
          cases hq : Ieee.double.sqrt x with
          | none =>
            exfalso
            unfold Ieee.Format.sqrt at hq
            rw [← dW_false x, read_word false hr] at hq
            have := mg_pos h00
            simp only [Ieee.Datum.root] at hq
            rw [if_neg (by omega)] at hq
            simp at hq
          | some v =>
            refine (sSqrt_fin H ho (isInf_s hx n (decide_eq_false hi)) h00 hr hq w).mono ?_
            rintro e w' ⟨rfl, rfl⟩
            exact ⟨v, 0, rfl, sqrt_lt hq, by simp [sqC, hq], rfl⟩
  · refine (sSqrt_nan (nan_t hx n) w).mono ?_
    rintro e w' ⟨rfl, rfl⟩
    exact ⟨x, 0, rfl, hx, by rw [cl_nan n]; simp [sqC, sqrt_nan hx n], rfl⟩
end Go.Proofs.Ytbcidfmfkmeinaa
