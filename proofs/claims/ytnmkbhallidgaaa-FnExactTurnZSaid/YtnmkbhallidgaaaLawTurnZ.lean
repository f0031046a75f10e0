/- At every t the program answers the specification's turn, part by part, all NaNs being one; nothing that was there is changed. -/
import Derived.Test.YtnmkbhallidgaaaOpenZ
import Derived.Test.YtnmkbhallidgaaaIt
import Derived.Handy
import Derived.Deep.RegionHeld3
import Derived.Deep.DeepCutAuto
namespace Go.Proofs.Ytnmkbhallidgaaa.LawTurnZ
open Go.ChangeShapes Go.WideShapes Go.ChangeAt Go.RowKit Go.Joins Fl
set_option linter.unusedVariables false

set_option maxHeartbeats 3200000 in
theorem walk (N : Int) (w : World) :
    Calls Try.prog 12 #[.int .i64 N] w fun e w' => e = .returned (.bool true) ∧ Below w.heap.size w w' := by
  have hst := st64
  go_enter Try.func12, Try.ntmps12
  go_wp2_with fail
  refine (sTurn_any N _).mono ?_
  rintro e w2 ⟨x, y, rfl, hz, b2⟩
  have A2 : Hid (Below w.heap.size w w2) := b2
  clear b2
  obtain ⟨V, hV⟩ : ∃ V, V = w2.alloc (.cells #[.float .f64 x, .float .f64 y] 28) := ⟨_, rfl⟩
  have AV : Hid (Below w.heap.size w V ∧ w2.heap.size < V.heap.size) := ⟨by rw [hV]; exact A2.out.alloc A2.out.size _, by rw [hV]; simp⟩
  have AC0 : Hid (V.cell? ⟨w2.heap.size, 0, none⟩ = some (.float .f64 x)) := by
    have h : V.cell? ⟨w2.heap.size, 0, none⟩ = some (.float .f64 x) := by rw [hV]; simp
    exact h
  have AC1 : Hid (V.cell? ⟨w2.heap.size, 1, none⟩ = some (.float .f64 y)) := by
    have h : V.cell? ⟨w2.heap.size, 1, none⟩ = some (.float .f64 y) := by rw [hV]; simp
    exact h
  go_wp2_with fail
  rw [← hV]
  clear hV A2
  refine (iTurn_any N _).mono ?_
  rintro e w4 ⟨x', y', rfl, hy, b4⟩
  have A4 : Hid (Below V.heap.size V w4) := b4
  clear b4
  have dc0 := old_cell A4.out AV.out.2 AC0.out
  have dc1 := old_cell A4.out AV.out.2 AC1.out
  have d0 : ∀ o, (w4.alloc o).cell? ⟨w2.heap.size, 0, none⟩ = some (.float .f64 x) := fun o => alloc_keeps dc0
  have d1 : ∀ o, (w4.alloc o).cell? ⟨w2.heap.size, 1, none⟩ = some (.float .f64 y) := fun o => alloc_keeps dc1
  have hne : ¬ w2.heap.size = w4.heap.size := by have := A4.out.size; have := AV.out.2; omega
  clear AC0 AC1
  go_wp2_with fail
  refine (eqZ_same hy hz _).mono ?_
  rintro e w5 ⟨rfl, b5⟩
  have A5 : Hid (Below w.heap.size w w5) := by
    have B4 : Below V.heap.size V (w4.alloc (.cells #[.float .f64 x', .float .f64 y'] 28)) := A4.out.alloc A4.out.size _
    exact box_step AV.out.1 (box_step B4 b5 (Nat.le_refl _)) (Nat.le_refl _)
  clear b5 A4 dc0 dc1 d0 d1 hne
  go_wp2
  go_ret
  exact ⟨rfl, A5.out⟩

set_option maxRecDepth 100000 in
theorem lifted (os : Os) (started : os.Started) (H : Type) (enc : TypeId × Value → H) :
    ReturnsInHanded {} Try.checked os 12 .any (Rows.fnExactTurnZSpec.pre6 enc Try.prog Try.f12 Rows.fnExactTurnZRow.domain false) (Rows.fnExactTurnZSpec.post enc Try.prog Try.f12 false true false false) := by
  refine returnsInHanded_of_change (C := Try.checked) own started (by kernel_rfl) Try.func12
    (ChangeSpec.witness6 (enc := enc) (C := Try.checked) false ⟨#[], #[.int .i64 0], []⟩ 8 (by kernel_rfl) (by kernel_rfl) (by kernel_rfl) (by kernel_rfl)) ?_
  intro W base args ds gs before hval0 hW hcnd _
  have hval : ∀ (j : Nat) t v, Try.f12.params[j]? = some t → args[j]? = some v → Value.okWide Try.prog W .any base t v := hval0
  have hW' := hW
  obtain ⟨p, q, hA0, hV, rfl, hfz, hnd⟩ := hW
  have hA : DataW.TrodAll enc Try.prog W 0 (fun _ => true) true Try.f12.params.toList args.toList ds p := hA0
  rw [Try.params12] at hA hval
  obtain ⟨v0, vs0, d0, ds0, p0, q0, hargs, rfl, rfl, h0, r0⟩ := trodAll_cons hA
  obtain ⟨rfl, rfl, rfl⟩ := trodAll_nil r0
  obtain rfl : args = #[v0] := by cases args; simp_all
  obtain ⟨rfl, rfl⟩ := trodVars_none hV
  have k0 := h0
  have lt0 : ∀ x ∈ p0, x.block < W.heap.size := by obtain ⟨m, hm⟩ := k0; exact DataW.trod_lt m _ _ _ hm
  obtain ⟨n0, rfl, _, _, w0⟩ := open_int Try.underlying2 (hval 0 2 v0 rfl rfl) h0
  clear hA0 hval0
  refine (walk n0 W).mono fun e W' ⟨he, bel⟩ => ?_
  subst he
  exact ⟨_, rfl, _, _, _, [], _, [], hW', trodAll_mk1 (shut_bool Try.underlying4 _), (trodAll_cons_mk (Below.trod laidOut (by kernel_rfl) (of_decide_eq_true (by kernel_rfl)) k0 bel lt0) trodAll_mk0), rfl, bel.frame _, fun h => by cases h⟩

theorem over : Rows.fnExactTurnZRow.holds Try.pinned (OpenSpec.ofChange Rows.fnExactTurnZSpec) :=
  OpenClaim.holds_of_wide 12 Try.f12 rfl rfl rfl rfl rfl rfl rfl ⟨rfl, rfl, rfl, rfl, rfl⟩ rfl rfl rfl rfl rfl (by kernel_rfl) Try.func12 (by kernel_rfl)
    (of_decide_eq_true (by kernel_rfl)) (by unfold Func.isWrapper; first | (rw [if_pos (by decide +kernel)]; kernel_rfl) | (rw [if_neg (by decide +kernel)]; exact ⟨rfl, rfl⟩))
    (fun os started H enc _ => lifted os started H enc)
end Go.Proofs.Ytnmkbhallidgaaa.LawTurnZ
namespace Go.Proofs.Ytnmkbhallidgaaa
theorem turnZ_holds : Rows.FnExactTurnZSaid := LawTurnZ.over
#print axioms turnZ_holds
end Go.Proofs.Ytnmkbhallidgaaa
