/- How far a ray goes along a normal; a ray that is mirrored: both packages, one class of floats. -/
import Derived.Test.YtbcidfmfkmeinaaRy
namespace Go.Proofs.Ytbcidfmfkmeinaa
open Go.RowKit Fl
set_option linter.unusedVariables false
set_option linter.unusedSimpArgs false
set_option maxHeartbeats 1600000 in
theorem iAlong_any {a b : Nat → Nat} {A B : Nat → Option Nat} (ha : Rc a A) (hb : Rc b B) (w : World) : FV 49 #[Rv a, Rv b] w (alongC A B) := by
  unfold FV
  have hmul := mul_run
  have hadd := add_run
  have hc1 := cell_opW
  go_enter Try.func49, Try.ntmps49
  go_wp2
  go_ret
  refine ⟨_, rfl, fc_op _ (fc_op _ (fc_op _ (ha.h 3 (by decide)) (hb.h 3 (by decide)) _) (fc_op _ (ha.h 4 (by decide)) (hb.h 4 (by decide)) _) _) (fc_op _ (ha.h 5 (by decide)) (hb.h 5 (by decide)) _) _, ?_⟩
  repeat (first | (refine below_opW ?_) | (refine Below.alloc ?_ (by simp <;> omega) _) | exact Below.refl _ _)
set_option maxHeartbeats 1600000 in
theorem sAlong_any {a b : Nat → Nat} {A B : Nat → Option Nat} (ha : Rc a A) (hb : Rc b B) (w : World) : FV 29 #[Rv a, Rv b] w (alongC A B) := by
  unfold FV
  have hmul := mul_run
  have hadd := add_run
  have hc1 := cell_opW
  go_enter Try.func29, Try.ntmps29
  go_wp2
  go_ret
  refine ⟨_, rfl, fc_op _ (fc_op _ (fc_op _ (ha.h 3 (by decide)) (hb.h 3 (by decide)) _) (fc_op _ (ha.h 4 (by decide)) (hb.h 4 (by decide)) _) _) (fc_op _ (ha.h 5 (by decide)) (hb.h 5 (by decide)) _) _, ?_⟩
  repeat (first | (refine below_opW ?_) | (refine Below.alloc ?_ (by simp <;> omega) _) | exact Below.refl _ _)
end Go.Proofs.Ytbcidfmfkmeinaa
