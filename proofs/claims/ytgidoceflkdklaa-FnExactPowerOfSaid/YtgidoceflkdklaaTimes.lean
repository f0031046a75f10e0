/- The specification's scaling by powers of two: a contract. -/
import Derived.Test.YtgidoceflkdklaaParts
namespace Go.Proofs.Ytgidoceflkdklaa
open Go.RowKit Fl
set_option maxHeartbeats 1600000 in
theorem times_any {m : Nat} {n : Int} {y : Nat} (hy : y = F false m 0) (hm : m < 9007199254740992) (hn : -1074 ≤ n) (hn2 : n ≤ 971) (w : World) :
    Calls Try.prog 98 #[.float .f64 y, .int .i64 n] w fun e w' => e = .returned (.float .f64 (F false m n)) ∧ w = w' := by
  have HX : Hid (y = F false m 0) := hy
  clear hy
  go_enter Try.func98, Try.ntmps98
  go_wp2
  go_loopw [0, 1] (fun f e wr => wr = w ∧ ∃ (p : Int) (y : Nat), f = .float .f64 y ∧ e = .int .i64 (n - p) ∧ Hid (y = F false m p) ∧ 0 ≤ p ∧ (p ≤ n ∨ p = 0)) (fun _ e _ => (intOf e).natAbs)
  case atStart => exact ⟨rfl, 0, y, rfl, by simp, HX, by omega, by omega⟩
  case round =>
    obtain ⟨rfl, p, y, rfl, rfl, hy, hp, hp2⟩ := hrel
    clear HX
    by_cases h : 64 ≤ n - p
    · obtain ⟨y', hy'⟩ : ∃ y', y' = F false m (p + 64) := ⟨_, rfl⟩
      have hq := mul64 (y := y) (y' := y') (by rw [hy.out, hy']; exact times64_F (rep_upto hm (by omega) (by omega)) false)
      have HY : Hid (y' = F false m (p + 64)) := hy'
      clear hy hy'
      go_wp2
      go_roundw
      case rel => exact ⟨by trivial, p + 64, y', rfl, by simp; omega, HY, by omega, by omega⟩
      case measure => simp [intOf]; omega
    · go_wp2
      have HX : Hid (y = F false m p) := hy
      clear hy
      go_loopw [0, 1] (fun f e wr' => wr' = wr ∧ ∃ (p : Int) (y : Nat), f = .float .f64 y ∧ e = .int .i64 (n - p) ∧ Hid (y = F false m p) ∧ 0 ≤ p ∧ (p ≤ n ∨ p = 0)) (fun _ e _ => (intOf e).natAbs)
      case atStart => exact ⟨rfl, p, y, rfl, rfl, HX, by omega, by omega⟩
      case round =>
        obtain ⟨rfl, p, y, rfl, rfl, hy, hp, hp2⟩ := hrel
        clear HX
        by_cases h : 0 < n - p
        · obtain ⟨y', hy'⟩ : ∃ y', y' = F false m (p + 1) := ⟨_, rfl⟩
          have hq := mul2 (y := y) (y' := y') (by rw [hy.out, hy']; exact twice_F (rep_upto hm (by omega) (by omega)) false)
          have HY : Hid (y' = F false m (p + 1)) := hy'
          clear hy hy'
          go_wp2
          go_roundw
          case rel => exact ⟨by trivial, p + 1, y', rfl, by simp; omega, HY, by omega, by omega⟩
          case measure => simp [intOf]; omega
        · go_wp2
          have HX : Hid (y = F false m p) := hy
          clear hy
          go_loopw [0, 1] (fun f e wr' => wr' = wr ∧ ∃ (p : Int) (y : Nat), f = .float .f64 y ∧ e = .int .i64 (n - p) ∧ Hid (y = F false m p) ∧ n ≤ p ∧ (p ≤ 0 ∨ p = n)) (fun _ e _ => (intOf e).natAbs)
          case atStart => exact ⟨rfl, p, y, rfl, rfl, HX, by omega, by omega⟩
          case round =>
            obtain ⟨rfl, p, y, rfl, rfl, hy, hp, hp2⟩ := hrel
            clear HX
            by_cases h : n - p ≤ -64
            · obtain ⟨y', hy'⟩ : ∃ y', y' = F false m (p - 64) := ⟨_, rfl⟩
              have hq := quo64 (y := y) (y' := y') (by rw [hy.out, hy']; exact over64_F (rep_upto hm (by omega) (by omega)) false)
              have HY : Hid (y' = F false m (p - 64)) := hy'
              clear hy hy'
              go_wp2
              go_roundw
              case rel => exact ⟨by trivial, p - 64, y', rfl, by simp; omega, HY, by omega, by omega⟩
              case measure => simp [intOf]; omega
            · go_wp2
              have HX : Hid (y = F false m p) := hy
              clear hy
              go_loopw [0, 1] (fun f e wr' => wr' = wr ∧ ∃ (p : Int) (y : Nat), f = .float .f64 y ∧ e = .int .i64 (n - p) ∧ Hid (y = F false m p) ∧ n ≤ p ∧ (p ≤ 0 ∨ p = n)) (fun _ e _ => (intOf e).natAbs)
              case atStart => exact ⟨rfl, p, y, rfl, rfl, HX, by omega, by omega⟩
              case round =>
                obtain ⟨rfl, p, y, rfl, rfl, hy, hp, hp2⟩ := hrel
                clear HX
                by_cases h : n - p < 0
                · obtain ⟨y', hy'⟩ : ∃ y', y' = F false m (p - 1) := ⟨_, rfl⟩
                  have hq := quo2 (y := y) (y' := y') (by rw [hy.out, hy']; exact half_F (rep_upto hm (by omega) (by omega)) false)
                  have HY : Hid (y' = F false m (p - 1)) := hy'
                  clear hy hy'
                  go_wp2
                  go_roundw
                  case rel => exact ⟨by trivial, p - 1, y', rfl, by simp; omega, HY, by omega, by omega⟩
                  case measure => simp [intOf]; omega
                · go_wp2
                  obtain rfl : p = n := by omega
                  have HX : Hid (y = F false m p) := hy
                  go_ret
                  exact ⟨congrArg (fun z => Ending.returned (Value.float .f64 z)) HX.out, rfl⟩
end Go.Proofs.Ytgidoceflkdklaa
