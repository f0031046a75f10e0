/- At every fraction that comes in, right or not, the program's FracFault answers the specification's number; nothing that was there is changed. -/
import Derived.Test.YtkmbcbjholpfbaaOpen
namespace Go.Proofs.Ytkmbcbjholpfbaa.LawFracFault
open Go.ChangeShapes Go.WideShapes Go.ChangeAt Go.RowKit Go.Joins

set_option maxHeartbeats 400000 in
theorem walk (n d : Int) (w : World) :
    Calls Try.prog 3 #[.agg #[.int .i64 n, .int .i64 d]] w fun e w' => e = .returned (.bool true) ∧ Below w.heap.size w w' := by
  go_enter Try.func3, Try.ntmps3
  go_wp2_with fail
  refine (toFrac_any _ _ _).mono ?_
  rintro e w1 ⟨rfl, hb1⟩
  have B1 : Hid (Below (w.heap.size + 1) (w.alloc (.cells #[.int .i64 n, .int .i64 d] 23)) w1) := hb1.mono (by simp)
  clear hb1
  go_wp2_with fail
  refine (sfault _ _ _).mono ?_
  rintro e w2 ⟨rfl, hb2⟩
  have B2 : Hid (Below (w.heap.size + 1) (w.alloc (.cells #[.int .i64 n, .int .i64 d] 23)) w2) := box_step B1.out hb2 (by simp)
  obtain ⟨c20, c21⟩ := box2 B2.out
  clear hb2 B1
  go_wp2_with fail
  refine (toFrac_any _ _ _).mono ?_
  rintro e w3 ⟨rfl, hb3⟩
  have B3 : Hid (Below (w.heap.size + 1) (w.alloc (.cells #[.int .i64 n, .int .i64 d] 23)) w3) := box_step B2.out hb3 (by simp)
  clear hb3 B2 c20 c21
  go_wp2_with fail
  refine (ifault _ _ _).mono ?_
  rintro e w4 ⟨rfl, hb4⟩
  have B4 : Hid (Below (w.heap.size + 1) (w.alloc (.cells #[.int .i64 n, .int .i64 d] 23)) w4) := box_step B3.out hb4 (by simp)
  clear hb4 B3
  go_wp2
  go_ret
  exact ⟨rfl, box_out B4.out⟩

set_option maxRecDepth 100000 in
theorem lifted (os : Os) (started : os.Started) (H : Type) (enc : TypeId × Value → H) :
    ReturnsInHanded {} Try.checked os 3 .any (Rows.fnExactFracFaultSpec.pre6 enc Try.prog Try.f3 Rows.fnExactFracFaultRow.domain false) (Rows.fnExactFracFaultSpec.post enc Try.prog Try.f3 false true false false) := by
  refine returnsInHanded_of_change (C := Try.checked) own started (by kernel_rfl) Try.func3
    (ChangeSpec.witness6 (enc := enc) (C := Try.checked) false ⟨#[], #[.agg #[.int .i64 0, .int .i64 0]], []⟩ 8 (by kernel_rfl) (by kernel_rfl) (by kernel_rfl) (by kernel_rfl)) ?_
  intro W base args ds gs before hval0 hW hcnd _
  have hval : ∀ (j : Nat) t v, Try.f3.params[j]? = some t → args[j]? = some v → Value.okWide Try.prog W .any base t v := hval0
  have hW' := hW
  obtain ⟨p, q, hA0, hV, rfl, hfz, hnd⟩ := hW
  have hA : DataW.TrodAll enc Try.prog W 0 (fun _ => true) true Try.f3.params.toList args.toList ds p := hA0
  rw [Try.params3] at hA hval
  obtain ⟨v0, vs0, d0, ds0, p0, q0, hargs, rfl, rfl, h0, r0⟩ := trodAll_cons hA
  obtain ⟨rfl, rfl, rfl⟩ := trodAll_nil r0
  obtain rfl : args = #[v0] := by cases args; simp_all
  obtain ⟨rfl, rfl⟩ := trodVars_none hV
  have k0 := h0
  have lt0 : ∀ x ∈ p0, x.block < W.heap.size := by obtain ⟨m, hm⟩ := k0; exact DataW.trod_lt m _ _ _ hm
  obtain ⟨n0, m0, rfl, _, _⟩ := open_frac (hval 0 23 v0 rfl rfl) h0
  clear hA0 hval0
  refine (walk n0 m0 W).mono fun e W' ⟨he, bel⟩ => ?_
  subst he
  exact ⟨_, rfl, _, _, _, [], _, [], hW', trodAll_mk1 (shut_bool Try.underlying4 _), (trodAll_cons_mk (Below.trod laidOut (by kernel_rfl) (of_decide_eq_true (by kernel_rfl)) k0 bel lt0) trodAll_mk0), rfl, bel.frame _, fun h => by cases h⟩

theorem over : Rows.fnExactFracFaultRow.holds Try.pinned (OpenSpec.ofChange Rows.fnExactFracFaultSpec) :=
  OpenClaim.holds_of_wide 3 Try.f3 rfl rfl rfl rfl rfl rfl rfl ⟨rfl, rfl, rfl, rfl, rfl⟩ rfl rfl rfl rfl rfl (by kernel_rfl) Try.func3 (by kernel_rfl)
    (of_decide_eq_true (by kernel_rfl)) (by unfold Func.isWrapper; first | (rw [if_pos (by decide +kernel)]; kernel_rfl) | (rw [if_neg (by decide +kernel)]; exact ⟨rfl, rfl⟩))
    (fun os started H enc _ => lifted os started H enc)
end Go.Proofs.Ytkmbcbjholpfbaa.LawFracFault
namespace Go.Proofs.Ytkmbcbjholpfbaa
theorem fracFault_holds : Rows.FnExactFracFaultSaid := LawFracFault.over
#print axioms fracFault_holds
end Go.Proofs.Ytkmbcbjholpfbaa
