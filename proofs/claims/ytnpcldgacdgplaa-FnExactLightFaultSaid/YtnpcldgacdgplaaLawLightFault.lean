/- At every light the program answers the fault that the specification tells; nothing that was there is changed. -/
import Derived.Test.YtnpcldgacdgplaaOpn
import Derived.Handy
import Derived.Deep.RegionHeld3
import Derived.Deep.DeepCutAuto
namespace Go.Proofs.Ytnpcldgacdgplaa.LawLightFault
open Go.ChangeShapes Go.WideShapes Go.ChangeAt Go.RowKit Go.Joins Fl
set_option linter.unusedVariables false

set_option maxHeartbeats 1600000 in
theorem walk (nm : Int) {side : Nat} (pol : Int) (hs : side < 18446744073709551616) (w : World) : Calls Try.prog 4 #[Lv nm side pol] w fun e w' => e = .returned (.bool true) ∧ Below w.heap.size w w' := by
  obtain ⟨X, hX⟩ : ∃ X, X = w.alloc (.cells #[.int .i64 nm, .float .f64 side, .int .i64 pol] 35) := ⟨_, rfl⟩
  have B0 : Hid (Below w.heap.size w X) := by
    have h : Below w.heap.size w X := by rw [hX]; exact (Below.refl _ _).alloc (Nat.le_refl _) _
    exact h
  have c0 : X.cell? ⟨w.heap.size, 0, none⟩ = some (.int .i64 nm) := by rw [hX]; simp
  have c1 : X.cell? ⟨w.heap.size, 1, none⟩ = some (.float .f64 side) := by rw [hX]; simp
  have c2 : X.cell? ⟨w.heap.size, 2, none⟩ = some (.int .i64 pol) := by rw [hX]; simp
  generalize hk : lfault nm side pol = k
  have Hs : Hid (∀ w, Calls Try.prog 14 #[Lv nm side pol] w fun e w' => e = .returned (.int .i64 k) ∧ Below w.heap.size w w') := by rw [← hk]; exact sLight_any nm side pol
  have Hi : Hid (∀ w, Calls Try.prog 16 #[Lv nm side pol] w fun e w' => e = .returned (.int .i64 k) ∧ Below w.heap.size w w') := by rw [← hk]; exact iLight_any nm side pol
  clear hk
  go_enter Try.func4, Try.ntmps4
  go_upto_region 1 with fail
  rw [← hX]
  have BX : Hid (Below w.heap.size w X) := B0
  clear hX B0
  go_wp2_with fail
  refine (toL_any nm side pol _).mono ?_
  rintro e w1 ⟨rfl, b1⟩
  go_wp2_with fail
  refine (Hs.out _).mono ?_
  rintro e w2 ⟨rfl, b2⟩
  have A2 : Hid (Below X.heap.size X w2) := box_step b1 b2 (Nat.le_refl _)
  have d0 := old_cell A2.out (World.block_lt_of_cell? _ _ c0) c0
  have d1 := old_cell A2.out (World.block_lt_of_cell? _ _ c1) c1
  have d2 := old_cell A2.out (World.block_lt_of_cell? _ _ c2) c2
  clear b1 b2 c0 c1 c2
  go_wp2_with fail
  refine (toL_any nm side pol _).mono ?_
  rintro e w3 ⟨rfl, b3⟩
  go_wp2_with fail
  refine (Hi.out _).mono ?_
  rintro e w4 ⟨rfl, b4⟩
  have A4 : Hid (Below w.heap.size w w4) := BX.out.trans ((box_step (box_step A2.out b3 (Nat.le_refl _)) b4 (Nat.le_refl _)).mono BX.out.size)
  clear b3 b4 d0 d1 d2
  go_wp2
  go_ret
  exact ⟨rfl, A4.out⟩

set_option maxRecDepth 100000 in
theorem lifted (os : Os) (started : os.Started) (H : Type) (enc : TypeId × Value → H) :
    ReturnsInHanded {} Try.checked os 4 .any (Rows.fnExactLightFaultSpec.pre6 enc Try.prog Try.f4 Rows.fnExactLightFaultRow.domain false) (Rows.fnExactLightFaultSpec.post enc Try.prog Try.f4 false true false false) := by
  refine returnsInHanded_of_change (C := Try.checked) own started (by kernel_rfl) Try.func4
    (ChangeSpec.witness6 (enc := enc) (C := Try.checked) false ⟨#[], #[.agg #[.int .i64 0, .float .f64 0, .int .i64 0]], []⟩ 8 (by kernel_rfl) (by kernel_rfl) (by kernel_rfl) (by kernel_rfl)) ?_
  intro W base args ds gs before hval0 hW hcnd _
  have hval : ∀ (j : Nat) t v, Try.f4.params[j]? = some t → args[j]? = some v → Value.okWide Try.prog W .any base t v := hval0
  have hW' := hW
  obtain ⟨p, q, hA0, hV, rfl, hfz, hnd⟩ := hW
  have hA : DataW.TrodAll enc Try.prog W 0 (fun _ => true) true Try.f4.params.toList args.toList ds p := hA0
  rw [Try.params4] at hA hval
  obtain ⟨v0, vs0, d0, ds0, p0, q0, hargs, rfl, rfl, h0, r0⟩ := trodAll_cons hA
  obtain ⟨rfl, rfl, rfl⟩ := trodAll_nil r0
  obtain rfl : args = #[v0] := by cases args; simp_all
  obtain ⟨rfl, rfl⟩ := trodVars_none hV
  have k0 := h0
  have lt0 : ∀ x ∈ p0, x.block < W.heap.size := by obtain ⟨m, hm⟩ := k0; exact DataW.trod_lt m _ _ _ hm
  obtain ⟨nm0, sd0, pl0, rfl, z0⟩ := open_light (hval 0 35 v0 rfl rfl) h0
  clear hA0 hval0
  refine (walk nm0 pl0 z0 W).mono fun e W' ⟨he, bel⟩ => ?_
  subst he
  exact ⟨_, rfl, _, _, _, [], _, [], hW', trodAll_mk1 (shut_bool Try.underlying4 _), (trodAll_cons_mk (Below.trod laidOut (by kernel_rfl) (of_decide_eq_true (by kernel_rfl)) k0 bel lt0) trodAll_mk0), rfl, bel.frame _, fun h => by cases h⟩

theorem over : Rows.fnExactLightFaultRow.holds Try.pinned (OpenSpec.ofChange Rows.fnExactLightFaultSpec) :=
  OpenClaim.holds_of_wide 4 Try.f4 rfl rfl rfl rfl rfl rfl rfl ⟨rfl, rfl, rfl, rfl, rfl⟩ rfl rfl rfl rfl rfl (by kernel_rfl) Try.func4 (by kernel_rfl)
    (of_decide_eq_true (by kernel_rfl)) (by unfold Func.isWrapper; first | (rw [if_pos (by decide +kernel)]; kernel_rfl) | (rw [if_neg (by decide +kernel)]; exact ⟨rfl, rfl⟩))
    (fun os started H enc _ => lifted os started H enc)
end Go.Proofs.Ytnpcldgacdgplaa.LawLightFault
namespace Go.Proofs.Ytnpcldgacdgplaa
theorem lightFault_holds : Rows.FnExactLightFaultSaid := LawLightFault.over
#print axioms lightFault_holds
end Go.Proofs.Ytnpcldgacdgplaa
