/- What is wrong with a step, the program's. -/
import Derived.Test.YtelejihgechmgaaSf
namespace Go.Proofs.Ytelejihgechmgaa
open Go.RowKit
set_option linter.unusedVariables false
set_option linter.unusedSimpArgs false
set_option maxRecDepth 20000 in
set_option maxHeartbeats 3200000 in
theorem iStepF_any {s r : Int} (hr : r = if Mt.inR s 1 1000 = true then 0 else 3) (w : World) : Calls Try.prog 74 #[.int .i64 s] w fun e w' => e = .returned (.int .i64 r) ∧ Below w.heap.size w w' := by
  have HF : ∀ W v, Bnd W v 1 1000 3 → Calls Try.prog 63 #[v, .slice (some ⟨W.heap.size, 0, none⟩) 1 1] (W.alloc (.cells #[.int .i64 s] 2)) fun e w' => e = .returned (.int .i64 r) ∧ Below (W.alloc (.cells #[.int .i64 s] 2)).heap.size (W.alloc (.cells #[.int .i64 s] 2)) w' := fun W v hv => fault1_any hr (hv.later ((Below.refl _ _).alloc (Nat.le_refl _) _)) (lst1 W s)
  clear hr
  go_enter Try.func74, Try.ntmps74
  go_wp2_with (first | (go_at_call 67; refine (between_any _ _ _ _).mono ?_; rintro e w1 ⟨b1, b2, rfl, h1, h2, q1, q2, hb1⟩; have HV : Hid (Bnd w1 _ 1 1000 3) := ⟨b1, b2, rfl, q1, q2⟩; clear h1 h2 q1 q2) | (go_at_call 63; refine (HF w1 _ HV.out).mono ?_; rintro e w2 ⟨rfl, hb2⟩))
  go_ret
  exact ⟨rfl, (hb1.alloc hb1.size _).trans (hb2.mono (by have := hb1.size; simp; omega))⟩
end Go.Proofs.Ytelejihgechmgaa
