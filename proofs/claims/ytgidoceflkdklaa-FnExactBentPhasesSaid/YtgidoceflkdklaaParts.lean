/- The specification's tests of sign and of the infinite ones, and its parts of a finite float: contracts. -/
import Derived.Test.YtgidoceflkdklaaBase
import Derived.Test.YtgidoceflkdklaaFlMore
namespace Go.Proofs.Ytgidoceflkdklaa
open Go.RowKit Fl
theorem one_over_zero : floatBits .quo .f64 4607182418800017408 0 = some 9218868437227405312 := by decide
theorem one_over_negzero : floatBits .quo .f64 4607182418800017408 9223372036854775808 = some 18442240474082181120 := by decide
theorem l3IsInf_any {b : Nat} (hb : b < 18446744073709551616) (nb : Num b) (w : World) : Calls Try.prog 96 #[.float .f64 b] w fun e w' => e = .returned (.bool (decide (rg b = 9218868437227405312))) ∧ w = w' := by
  have h1 := order_large hb nb
  have h2 := order_least hb nb
  by_cases c1 : b = 9218868437227405312
  · have g1 := h1.2 c1
    rw [decide_eq_true (by rw [c1])]
    clear h1 h2 hb nb c1
    go_enter Try.func96, Try.ntmps96
    go_wp2
    go_ret
    exact ⟨rfl, rfl⟩
  · have g1 : (FloatKind.f64.format.order b 9218868437227405311 == some .gt) = false := by
      rw [beq_order]; exact decide_eq_false (fun h => c1 (h1.1 h))
    by_cases c2 : b = 18442240474082181120
    · have g2 := h2.2 c2
      rw [decide_eq_true (by rw [c2])]
      clear h1 h2 hb nb c1 c2
      go_enter Try.func96, Try.ntmps96
      go_wp2
      go_ret
      exact ⟨rfl, rfl⟩
    · have g2 : (FloatKind.f64.format.order b 18442240474082181119 == some .lt) = false := by
        rw [beq_order]; exact decide_eq_false (fun h => c2 (h2.1 h))
      rw [decide_eq_false (by simp only [rg]; omega)]
      clear h1 h2 hb nb c1 c2
      go_enter Try.func96, Try.ntmps96
      go_wp2
      go_ret
      exact ⟨rfl, rfl⟩
theorem quo64 {y y' : Nat} (h : Ieee.double.div y 4895412794951729152 = some y') : ∀ t w, (binOp .quo t (.float .f64 y) (.float .f64 4895412794951729152)).run Try.prog w = .ok (.float .f64 y') w :=
  fun t w => run_float_arith w .quo t .f64 _ _ _ h
theorem quo2 {y y' : Nat} (h : Ieee.double.div y 4611686018427387904 = some y') : ∀ t w, (binOp .quo t (.float .f64 y) (.float .f64 4611686018427387904)).run Try.prog w = .ok (.float .f64 y') w :=
  fun t w => run_float_arith w .quo t .f64 _ _ _ h
theorem mul64 {y y' : Nat} (h : Ieee.double.mul y 4895412794951729152 = some y') : ∀ t w, (binOp .mul t (.float .f64 y) (.float .f64 4895412794951729152)).run Try.prog w = .ok (.float .f64 y') w :=
  fun t w => run_float_arith w .mul t .f64 _ _ _ h
theorem mul2 {y y' : Nat} (h : Ieee.double.mul y 4611686018427387904 = some y') : ∀ t w, (binOp .mul t (.float .f64 y) (.float .f64 4611686018427387904)).run Try.prog w = .ok (.float .f64 y') w :=
  fun t w => run_float_arith w .mul t .f64 _ _ _ h
theorem to_int {y : Nat} {m : Nat} (h : y = F false m 0) (hm : m < 9007199254740992) : ∀ w, (convert 52 2 (.float .f64 y)).run Try.prog w = .ok (.int .i64 m) w :=
  fun w => run_convert_float_int w 52 2 .f64 .i64 _ _ (by rw [Try.underlying52]; rfl) Try.underlying2 (by rw [h]; exact toInt_F hm)
set_option maxHeartbeats 1600000 in
theorem parts_go {M : Nat} {P0 : Int} {x : Nat} (hx : x = F false M P0) (hz : FloatKind.f64.format.order x 0 = some .gt) (hrep : Rep M P0) (hsm : M < 4503599627370496 → P0 = -1074) (h971 : P0 ≤ 971) (w : World) :
    Calls Try.prog 97 #[.float .f64 x] w fun e w' => e = .returned (.tuple #[.int .i64 M, .int .i64 P0]) ∧ w = w' := by
  have hlo : -1074 ≤ P0 := hrep.2.1
  have HX : Hid (x = F false M P0 ∧ Rep M P0) := ⟨hx, hrep⟩
  have HS : Hid (M < 4503599627370496 → P0 = -1074) := hsm
  have hM : M < 9007199254740992 := hrep.1
  clear hx hrep hsm
  go_enter Try.func97, Try.ntmps97
  go_wp2
  go_loopw [0, 4] (fun f e wr => wr = w ∧ ∃ (p : Int) (y : Nat), f = .float .f64 y ∧ e = .int .i64 (P0 - p) ∧ Hid (y = F false M p ∧ Rep M p) ∧ p ≤ P0 ∧ -1074 ≤ p) (fun _ e _ => (P0 - intOf e + 2000).toNat)
  case atStart => exact ⟨rfl, P0, x, rfl, by simp, HX, by omega, hlo⟩
  case round =>
    obtain ⟨rfl, p, y, rfl, rfl, hy, hp, hp2⟩ := hrel
    clear HX hz
    by_cases h : 64 ≤ p
    · obtain ⟨y', hy'⟩ : ∃ y', y' = F false M (p - 64) := ⟨_, rfl⟩
      have hq := quo64 (y := y) (y' := y') (by rw [hy.out.1, hy']; exact over64_F hy.out.2 false)
      have HY : Hid (y' = F false M (p - 64) ∧ Rep M (p - 64)) := ⟨hy', rep_lower hy.out.2 (by omega) (by omega)⟩
      have hge : FloatKind.f64.format.order y 5129599975574994944 = some .gt ∨ FloatKind.f64.format.order y 5129599975574994944 = some .eq := by
        have hm : 4503599627370496 ≤ M := by
          have := HS.out
          omega
        have := below_pow (q := 64) hy.out.2 hm (by omega) (by omega) h
        rw [c116, ← hy.out.1] at this
        exact this
      clear hy hy' HS
      rcases hge with hge | hge
      · go_wp2
        go_roundw
        case rel => exact ⟨by trivial, p - 64, y', rfl, by simp; omega, HY, by omega, by omega⟩
        case measure => simp [intOf]; omega
      · go_wp2
        go_roundw
        case rel => exact ⟨by trivial, p - 64, y', rfl, by simp; omega, HY, by omega, by omega⟩
        case measure => simp [intOf]; omega
    · have hlt : FloatKind.f64.format.order y 5129599975574994944 = some .lt := by
        have := lt_pow (q := 64) hy.out.2 (by omega) (by omega) (by omega)
        rw [c116, ← hy.out.1] at this
        exact this
      go_wp2
      have HX : Hid (y = F false M p ∧ Rep M p) := hy
      clear hlt hy
      go_loopw [0, 4] (fun f e wr' => wr' = wr ∧ ∃ (p : Int) (y : Nat), f = .float .f64 y ∧ e = .int .i64 (P0 - p) ∧ Hid (y = F false M p ∧ Rep M p) ∧ p ≤ P0 ∧ -1074 ≤ p) (fun _ e _ => (P0 - intOf e + 2000).toNat)
      case atStart => exact ⟨rfl, p, y, rfl, rfl, HX, by omega, by omega⟩
      case round =>
        obtain ⟨rfl, p, y, rfl, rfl, hy, hp, hp2⟩ := hrel
        clear HX
        by_cases h : 1 ≤ p
        · obtain ⟨y', hy'⟩ : ∃ y', y' = F false M (p - 1) := ⟨_, rfl⟩
          have hq := quo2 (y := y) (y' := y') (by rw [hy.out.1, hy']; exact half_F hy.out.2 false)
          have HY : Hid (y' = F false M (p - 1) ∧ Rep M (p - 1)) := ⟨hy', rep_lower hy.out.2 (by omega) (by omega)⟩
          have hge : FloatKind.f64.format.order y 4845873199050653696 = some .gt ∨ FloatKind.f64.format.order y 4845873199050653696 = some .eq := by
            have hm : 4503599627370496 ≤ M := by
              have := HS.out
              omega
            have := below_pow (q := 1) hy.out.2 hm (by omega) (by omega) h
            rw [c53, ← hy.out.1] at this
            exact this
          clear hy hy' HS
          rcases hge with hge | hge
          · go_wp2
            go_roundw
            case rel => exact ⟨by trivial, p - 1, y', rfl, by simp; omega, HY, by omega, by omega⟩
            case measure => simp [intOf]; omega
          · go_wp2
            go_roundw
            case rel => exact ⟨by trivial, p - 1, y', rfl, by simp; omega, HY, by omega, by omega⟩
            case measure => simp [intOf]; omega
        · have hlt : FloatKind.f64.format.order y 4845873199050653696 = some .lt := by
            have := lt_pow (q := 1) hy.out.2 (by omega) (by omega) (by omega)
            rw [c53, ← hy.out.1] at this
            exact this
          go_wp2
          have HX : Hid (y = F false M p ∧ Rep M p) := hy
          clear hlt hy
          go_loopw [0, 4] (fun f e wr' => wr' = wr ∧ ∃ (p : Int) (y : Nat), f = .float .f64 y ∧ e = .int .i64 (P0 - p) ∧ Hid (y = F false M p ∧ Rep M p) ∧ p ≤ 0 ∧ -1074 ≤ p) (fun _ e _ => (intOf e + 5000).toNat)
          case atStart => exact ⟨rfl, p, y, rfl, rfl, HX, by omega, by omega⟩
          case round =>
            obtain ⟨rfl, p, y, rfl, rfl, hy, hp, hp2⟩ := hrel
            clear HX
            by_cases h : p < 0
            · obtain ⟨y', hy'⟩ : ∃ y', y' = F false M (p + 1) := ⟨_, rfl⟩
              have hq := mul2 (y := y) (y' := y') (by rw [hy.out.1, hy']; exact twice_F hy.out.2 false)
              have HY : Hid (y' = F false M (p + 1) ∧ Rep M (p + 1)) := ⟨hy', rep_upto hM (by omega) (by omega)⟩
              have hlt : FloatKind.f64.format.order y 4841369599423283200 = some .lt := by
                have := lt_pow (q := 0) hy.out.2 (by omega) (by omega) h
                rw [c52, ← hy.out.1] at this
                exact this
              clear hy hy' HS
              go_wp2
              go_roundw
              case rel => exact ⟨by trivial, p + 1, y', rfl, by simp; omega, HY, by omega, by omega⟩
              case measure => simp [intOf]; omega
            · obtain rfl : p = 0 := by omega
              have hc := to_int hy.out.1 hM
              by_cases hm : 4503599627370496 ≤ M
              · have hge : FloatKind.f64.format.order y 4841369599423283200 = some .gt ∨ FloatKind.f64.format.order y 4841369599423283200 = some .eq := by
                  have := below_pow (q := 0) hy.out.2 hm (by omega) (by omega) (by omega)
                  rw [c52, ← hy.out.1] at this
                  exact this
                clear hy HS
                rcases hge with hge | hge
                · go_wp2
                  go_ret2
                  exact ⟨by simp, rfl⟩
                · go_wp2
                  go_ret2
                  exact ⟨by simp, rfl⟩
              · obtain rfl : P0 = -1074 := HS.out (by omega)
                have hlt : FloatKind.f64.format.order y 4841369599423283200 = some .lt := by
                  have := small_below hy.out.2 (by omega) (by omega)
                  rw [c52, ← hy.out.1] at this
                  exact this
                clear hy HS
                go_wp2
                go_ret2
                exact ⟨by simp, rfl⟩
theorem parts_any {r : Nat} (h0 : 0 < r) (hr : r < 9218868437227405312) (w : World) : Calls Try.prog 97 #[.float .f64 r] w fun e w' => e = .returned (.tuple #[.int .i64 (mg r), .int .i64 (pl r)]) ∧ w = w' := by
  have hz : FloatKind.f64.format.order r 0 = some .gt := by
    rw [order_zero (by omega) (show r % 9223372036854775808 ≤ _ by omega), if_neg (by simp only [rg]; omega), if_neg (by simp only [sg]; simp; omega)]
  exact parts_go (by rw [F_rg false hr, dW_false]) hz (rep_rg hr) mg_small (pl_le hr) w
end Go.Proofs.Ytgidoceflkdklaa
