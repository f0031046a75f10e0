/- Lights: their copies, their faults in both packages, one value. -/
import Derived.Test.YtnpcldgacdgplaaZb
import Derived.Test.YtnpcldgacdgplaaFm
import Derived.Handy
import Derived.Below
namespace Go.Proofs.Ytnpcldgacdgplaa
open Go.RowKit Fl
set_option linter.unusedVariables false
set_option linter.unusedSimpArgs false
/-- A light. -/
abbrev Lv (nm : Int) (side : Nat) (pol : Int) : Value := .agg #[.int .i64 nm, .float .f64 side, .int .i64 pol]
def lfault (nm : Int) (side : Nat) (pol : Int) : Int := if ¬ pol = 1 ∧ ¬ pol = 2 then 1 else if nm < 1 ∨ 100000 < nm ∨ sideB side = false then 3 else 0
/-- A box, and then a call. -/
theorem box_step1 {w w1 : World} {o : Obj} (h : Below (w.alloc o).heap.size (w.alloc o) w1) : Below w.heap.size w w1 := ((Below.refl _ _).alloc (Nat.le_refl _) o).trans (h.mono (by simp))
theorem iSide_any (x : Nat) (w : World) : Calls Try.prog 37 #[.float .f64 x] w fun e w' => e = .returned (.bool (sideB x)) ∧ Below w.heap.size w w' := by
  unfold sideB geB ltB
  rcases h1 : FloatKind.f64.format.order x 0 with _ | o1
  · go_enter Try.func37, Try.ntmps37
    go_wp2
    go_ret
    refine ⟨by simp, ?_⟩
    go_grown
  · rcases h2 : FloatKind.f64.format.order x 4607182418800017408 with _ | o2
    · cases o1 <;>
      · go_enter Try.func37, Try.ntmps37
        go_wp2
        go_ret
        refine ⟨by simp, ?_⟩
        go_grown
    · cases o1 <;> cases o2 <;>
      · go_enter Try.func37, Try.ntmps37
        go_wp2
        go_ret
        refine ⟨by simp, ?_⟩
        go_grown
theorem lf_form {nm : Int} {side : Nat} {pol : Int} (hp : ¬ pol = 1 ∧ ¬ pol = 2) : lfault nm side pol = 1 := by unfold lfault; rw [if_pos hp]
theorem lf_low {nm : Int} {side : Nat} {pol : Int} (hp : ¬ (¬ pol = 1 ∧ ¬ pol = 2)) (h : nm < 1) : lfault nm side pol = 3 := by unfold lfault; rw [if_neg hp, if_pos (Or.inl h)]
theorem lf_high {nm : Int} {side : Nat} {pol : Int} (hp : ¬ (¬ pol = 1 ∧ ¬ pol = 2)) (h : 100000 < nm) : lfault nm side pol = 3 := by unfold lfault; rw [if_neg hp, if_pos (Or.inr (Or.inl h))]
theorem lf_side {nm : Int} {side : Nat} {pol : Int} (hp : ¬ (¬ pol = 1 ∧ ¬ pol = 2)) (h : sideB side = false) : lfault nm side pol = 3 := by unfold lfault; rw [if_neg hp, if_pos (Or.inr (Or.inr h))]
theorem lf_ok {nm : Int} {side : Nat} {pol : Int} (hp : ¬ (¬ pol = 1 ∧ ¬ pol = 2)) (h1 : ¬ nm < 1) (h2 : ¬ 100000 < nm) (h : sideB side = true) : lfault nm side pol = 0 := by unfold lfault; rw [if_neg hp, if_neg (by simp [h1, h2, h])]
set_option maxHeartbeats 1600000 in
theorem iLight_any (nm : Int) (side : Nat) (pol : Int) (w : World) : Calls Try.prog 16 #[Lv nm side pol] w fun e w' => e = .returned (.int .i64 (lfault nm side pol)) ∧ Below w.heap.size w w' := by
  by_cases hp : ¬ pol = 1 ∧ ¬ pol = 2
  · rw [lf_form hp]
    obtain ⟨p1, p2⟩ := hp
    have q1 : (pol != 1) = true := by simp [p1]
    have q2 : (pol != 2) = true := by simp [p2]
    go_enter Try.func16, Try.ntmps16
    go_wp2
    go_ret
    refine ⟨rfl, ?_⟩
    go_grown
  by_cases h1 : nm < 1
  · rw [lf_low hp h1]
    rcases (show pol = 1 ∨ pol = 2 by omega) with rfl | rfl <;>
    · clear hp
      go_enter Try.func16, Try.ntmps16
      go_wp2
      go_ret
      refine ⟨rfl, ?_⟩
      go_grown
  by_cases h2 : 100000 < nm
  · rw [lf_high hp h2]
    rcases (show pol = 1 ∨ pol = 2 by omega) with rfl | rfl <;>
    · clear hp
      go_enter Try.func16, Try.ntmps16
      go_wp2
      go_ret
      refine ⟨rfl, ?_⟩
      go_grown
  have H : Hid (∀ w, Calls Try.prog 37 #[.float .f64 side] w fun e w' => e = .returned (.bool (sideB side)) ∧ Below w.heap.size w w') := iSide_any side
  cases hs : sideB side with
  | false =>
    rw [lf_side hp hs]
    rw [hs] at H
    rcases (show pol = 1 ∨ pol = 2 by omega) with rfl | rfl <;>
    · clear hp hs
      go_enter Try.func16, Try.ntmps16
      go_wp2_with (go_at_call 37; refine (H.out _).mono ?_; rintro e w1 ⟨rfl, hb1⟩)
      go_ret
      exact ⟨rfl, box_step1 hb1⟩
  | true =>
    rw [lf_ok hp h1 h2 hs]
    rw [hs] at H
    rcases (show pol = 1 ∨ pol = 2 by omega) with rfl | rfl <;>
    · clear hp hs
      go_enter Try.func16, Try.ntmps16
      go_wp2_with (go_at_call 37; refine (H.out _).mono ?_; rintro e w1 ⟨rfl, hb1⟩)
      go_ret
      exact ⟨rfl, box_step1 hb1⟩
set_option maxHeartbeats 1600000 in
theorem sLight_any (nm : Int) (side : Nat) (pol : Int) (w : World) : Calls Try.prog 14 #[Lv nm side pol] w fun e w' => e = .returned (.int .i64 (lfault nm side pol)) ∧ Below w.heap.size w w' := by
  by_cases hp : ¬ pol = 1 ∧ ¬ pol = 2
  · rw [lf_form hp]
    obtain ⟨p1, p2⟩ := hp
    have q1 : (pol != 1) = true := by simp [p1]
    have q2 : (pol != 2) = true := by simp [p2]
    go_enter Try.func14, Try.ntmps14
    go_wp2
    go_ret
    refine ⟨rfl, ?_⟩
    go_grown
  by_cases h1 : nm < 1
  · rw [lf_low hp h1]
    rcases (show pol = 1 ∨ pol = 2 by omega) with rfl | rfl <;>
    · clear hp
      go_enter Try.func14, Try.ntmps14
      go_wp2
      go_ret
      refine ⟨rfl, ?_⟩
      go_grown
  by_cases h2 : 100000 < nm
  · rw [lf_high hp h2]
    rcases (show pol = 1 ∨ pol = 2 by omega) with rfl | rfl <;>
    · clear hp
      go_enter Try.func14, Try.ntmps14
      go_wp2
      go_ret
      refine ⟨rfl, ?_⟩
      go_grown
  have S : ∀ b, sideB side = b → lfault nm side pol = if b then 0 else 3 := by
    intro b h
    cases b
    · exact lf_side hp h
    · exact lf_ok hp h1 h2 h
  rcases o1 : FloatKind.f64.format.order side 0 with _ | c1 <;> rcases o2 : FloatKind.f64.format.order side 4607182418800017408 with _ | c2 <;> (try cases c1) <;> (try cases c2) <;> rcases (show pol = 1 ∨ pol = 2 by omega) with rfl | rfl <;>
  · rw [S _ (by unfold sideB geB ltB; rw [o1, o2])]
    clear hp S
    go_enter Try.func14, Try.ntmps14
    go_wp2
    go_ret
    refine ⟨rfl, ?_⟩
    go_grown
set_option maxHeartbeats 800000 in
theorem toL_any (nm : Int) (side : Nat) (pol : Int) (w : World) : Calls Try.prog 15 #[Lv nm side pol] w fun e w' => e = .returned (Lv nm side pol) ∧ Below w.heap.size w w' := by
  have hst := st64
  go_enter Try.func15, Try.ntmps15
  go_wp2
  refine bodyPost_ret (v := Lv nm side pol) (by simp [results, Try.results15, go_sem]) rfl ⟨rfl, ?_⟩
  go_grown
end Go.Proofs.Ytnpcldgacdgplaa
