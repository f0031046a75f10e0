/- At every kind the program's PlateOf answers as the specification, number by number; nothing that was there is changed. -/
import Derived.Test.YtloebnlmeplgbaaPk
import Derived.Test.YtloebnlmeplgbaaTl
import Derived.Test.YtloebnlmeplgbaaOz
import Derived.Handy
import Derived.Deep.RegionHeld3
import Derived.Deep.DeepCutAuto
namespace Go.Proofs.Ytloebnlmeplgbaa.LawPlateOf
open Go.ChangeShapes Go.WideShapes Go.ChangeAt Go.RowKit Go.Joins
set_option linter.unusedVariables false

set_option maxRecDepth 20000 in
set_option maxHeartbeats 3200000 in
theorem walk (a : Int) (w : World) : Calls Try.prog 6 #[.int .i64 (a)] w fun e w' => e = .returned (.bool true) ∧ Below w.heap.size w w' := by
  go_enter Try.func6, Try.ntmps6
  have HO : Hid (Below w.heap.size w w) := Below.refl _ _
  go_upto_region 1 with fail
  go_wp2_with fail
  refine (splateOf a _).mono ?_
  rintro e v1 ⟨rfl, hb⟩
  replace HO : Hid (Below w.heap.size w v1) := box_step HO.out hb (Nat.le_refl _)
  clear hb
  go_upto_region 2 with fail
  obtain ⟨v2, hv⟩ : ∃ Xw, Xw = (v1.alloc (.cells #[.int .i64 ((plk a).a.re), .int .i64 ((plk a).a.im), .int .i64 ((plk a).b.re), .int .i64 ((plk a).b.im), .int .i64 ((plk a).c.re), .int .i64 ((plk a).c.im), .int .i64 ((plk a).d.re), .int .i64 ((plk a).d.im)] 27)) := ⟨_, rfl⟩
  rw [← hv]
  have B_s0 : Hid (Blk v2 (v1.heap.size) #[.int .i64 ((plk a).a.re), .int .i64 ((plk a).a.im), .int .i64 ((plk a).b.re), .int .i64 ((plk a).b.im), .int .i64 ((plk a).c.re), .int .i64 ((plk a).c.im), .int .i64 ((plk a).d.re), .int .i64 ((plk a).d.im)] 27) := by show Blk v2 (v1.heap.size) _ _; rw [hv]; exact (Blk.new (by simp))
  have low_s0 : Hid (w.heap.size ≤ v1.heap.size) := by show w.heap.size ≤ v1.heap.size; have := HO.out.size; omega
  replace HO : Hid (Below w.heap.size w v2) := by show Below w.heap.size w v2; rw [hv]; exact (below_new HO.out _)
  clear hv
  go_wp2_with fail
  refine (iplateOf a _).mono ?_
  rintro e v3 ⟨rfl, hb⟩
  replace B_s0 : Hid (Blk v3 (v1.heap.size) #[.int .i64 ((plk a).a.re), .int .i64 ((plk a).a.im), .int .i64 ((plk a).b.re), .int .i64 ((plk a).b.im), .int .i64 ((plk a).c.re), .int .i64 ((plk a).c.im), .int .i64 ((plk a).d.re), .int .i64 ((plk a).d.im)] 27) := by show Blk v3 (v1.heap.size) _ _; exact Blk.old B_s0.out hb
  replace HO : Hid (Below w.heap.size w v3) := box_step HO.out hb (Nat.le_refl _)
  clear hb
  go_upto_region 3 with fail
  obtain ⟨v4, hv⟩ : ∃ Xw, Xw = (v3.alloc (.cells #[.int .i64 ((plk a).a.re), .int .i64 ((plk a).a.im), .int .i64 ((plk a).b.re), .int .i64 ((plk a).b.im), .int .i64 ((plk a).c.re), .int .i64 ((plk a).c.im), .int .i64 ((plk a).d.re), .int .i64 ((plk a).d.im)] 27)) := ⟨_, rfl⟩
  rw [← hv]
  have ne_s0_g0 : Hid (v1.heap.size ≠ v3.heap.size) := Nat.ne_of_lt (Nat.lt_of_lt_of_le B_s0.out.lt (by omega))
  have B_g0 : Hid (Blk v4 (v3.heap.size) #[.int .i64 ((plk a).a.re), .int .i64 ((plk a).a.im), .int .i64 ((plk a).b.re), .int .i64 ((plk a).b.im), .int .i64 ((plk a).c.re), .int .i64 ((plk a).c.im), .int .i64 ((plk a).d.re), .int .i64 ((plk a).d.im)] 27) := by show Blk v4 (v3.heap.size) _ _; rw [hv]; exact (Blk.new (by simp))
  have low_g0 : Hid (w.heap.size ≤ v3.heap.size) := by show w.heap.size ≤ v3.heap.size; have := HO.out.size; omega
  replace B_s0 : Hid (Blk v4 (v1.heap.size) #[.int .i64 ((plk a).a.re), .int .i64 ((plk a).a.im), .int .i64 ((plk a).b.re), .int .i64 ((plk a).b.im), .int .i64 ((plk a).c.re), .int .i64 ((plk a).c.im), .int .i64 ((plk a).d.re), .int .i64 ((plk a).d.im)] 27) := by show Blk v4 (v1.heap.size) _ _; rw [hv]; exact (Blk.alloc B_s0.out _)
  replace HO : Hid (Below w.heap.size w v4) := by show Below w.heap.size w v4; rw [hv]; exact (below_new HO.out _)
  clear hv
  have g0_0 := B_g0.out.cell (j := 0) rfl
  have g0_1 := B_g0.out.cell (j := 1) rfl
  have g0_2 := B_g0.out.cell (j := 2) rfl
  have g0_3 := B_g0.out.cell (j := 3) rfl
  have g0_4 := B_g0.out.cell (j := 4) rfl
  have g0_5 := B_g0.out.cell (j := 5) rfl
  have g0_6 := B_g0.out.cell (j := 6) rfl
  have g0_7 := B_g0.out.cell (j := 7) rfl
  have g0_f := B_g0.out.frozen
  have g0_z := B_g0.out.lt
  have s0_0 := B_s0.out.cell (j := 0) rfl
  have s0_1 := B_s0.out.cell (j := 1) rfl
  have s0_2 := B_s0.out.cell (j := 2) rfl
  have s0_3 := B_s0.out.cell (j := 3) rfl
  have s0_4 := B_s0.out.cell (j := 4) rfl
  have s0_5 := B_s0.out.cell (j := 5) rfl
  have s0_6 := B_s0.out.cell (j := 6) rfl
  have s0_7 := B_s0.out.cell (j := 7) rfl
  have s0_f := B_s0.out.frozen
  have s0_z := B_s0.out.lt
  go_wp2_with fail
  refine (eqP_same _ _ _ _ _).mono ?_
  rintro e v5 ⟨rfl, hb⟩
  clear g0_0 g0_1 g0_2 g0_3 g0_4 g0_5 g0_6 g0_7 g0_f g0_z s0_0 s0_1 s0_2 s0_3 s0_4 s0_5 s0_6 s0_7 s0_f s0_z
  replace B_s0 : Hid (Blk v5 (v1.heap.size) #[.int .i64 ((plk a).a.re), .int .i64 ((plk a).a.im), .int .i64 ((plk a).b.re), .int .i64 ((plk a).b.im), .int .i64 ((plk a).c.re), .int .i64 ((plk a).c.im), .int .i64 ((plk a).d.re), .int .i64 ((plk a).d.im)] 27) := by show Blk v5 (v1.heap.size) _ _; exact Blk.old B_s0.out hb
  replace B_g0 : Hid (Blk v5 (v3.heap.size) #[.int .i64 ((plk a).a.re), .int .i64 ((plk a).a.im), .int .i64 ((plk a).b.re), .int .i64 ((plk a).b.im), .int .i64 ((plk a).c.re), .int .i64 ((plk a).c.im), .int .i64 ((plk a).d.re), .int .i64 ((plk a).d.im)] 27) := by show Blk v5 (v3.heap.size) _ _; exact Blk.old B_g0.out hb
  replace HO : Hid (Below w.heap.size w v5) := box_step HO.out hb (Nat.le_refl _)
  clear hb
  go_upto_region 5 with fail
  go_wp2
  go_ret
  exact ⟨rfl, HO.out⟩

set_option maxRecDepth 100000 in
theorem lifted (os : Os) (started : os.Started) (H : Type) (enc : TypeId × Value → H) :
    ReturnsInHanded {} Try.checked os 6 .any (Rows.fnExactPlateOfSpec.pre6 enc Try.prog Try.f6 Rows.fnExactPlateOfRow.domain false) (Rows.fnExactPlateOfSpec.post enc Try.prog Try.f6 false true false false) := by
  refine returnsInHanded_of_change (C := Try.checked) own started (by kernel_rfl) Try.func6
    (ChangeSpec.witness6 (enc := enc) (C := Try.checked) false ⟨#[], #[.int .i64 0], []⟩ 8 (by kernel_rfl) (by kernel_rfl) (by kernel_rfl) (by kernel_rfl)) ?_
  intro W base args ds gs before hval0 hW hcnd _
  have hval : ∀ (j : Nat) t v, Try.f6.params[j]? = some t → args[j]? = some v → Value.okWide Try.prog W .any base t v := hval0
  have hW' := hW
  obtain ⟨p, q, hA0, hV, rfl, hfz, hnd⟩ := hW
  have hA : DataW.TrodAll enc Try.prog W 0 (fun _ => true) true Try.f6.params.toList args.toList ds p := hA0
  rw [Try.params6] at hA hval
  obtain ⟨v0, vs0, d0, ds0, p0, q0, hargs, rfl, rfl, h0, r0⟩ := trodAll_cons hA
  obtain ⟨rfl, rfl, rfl⟩ := trodAll_nil r0
  obtain rfl : args = #[v0] := by cases args; simp_all
  obtain ⟨rfl, rfl⟩ := trodVars_none hV
  have k0 := h0
  have lt0 : ∀ x ∈ p0, x.block < W.heap.size := by obtain ⟨m, hm⟩ := k0; exact DataW.trod_lt m _ _ _ hm
  obtain ⟨n0, rfl, _, _, w0⟩ := open_int Try.underlying2 (hval 0 2 v0 rfl rfl) h0
  clear hA0 hval0
  refine (walk n0 W).mono fun e W' ⟨he, bel⟩ => ?_
  subst he
  exact ⟨_, rfl, _, _, _, [], _, [], hW', trodAll_mk1 (shut_bool Try.underlying4 _), (trodAll_cons_mk (Below.trod laidOut (by kernel_rfl) (of_decide_eq_true (by kernel_rfl)) k0 bel lt0) trodAll_mk0), rfl, bel.frame _, fun h => by cases h⟩

theorem over : Rows.fnExactPlateOfRow.holds Try.pinned (OpenSpec.ofChange Rows.fnExactPlateOfSpec) :=
  OpenClaim.holds_of_wide 6 Try.f6 rfl rfl rfl rfl rfl rfl rfl ⟨rfl, rfl, rfl, rfl, rfl⟩ rfl rfl rfl rfl rfl (by kernel_rfl) Try.func6 (by kernel_rfl)
    (of_decide_eq_true (by kernel_rfl)) (by unfold Func.isWrapper; first | (rw [if_pos (by decide +kernel)]; kernel_rfl) | (rw [if_neg (by decide +kernel)]; exact ⟨rfl, rfl⟩))
    (fun os started H enc _ => lifted os started H enc)
end Go.Proofs.Ytloebnlmeplgbaa.LawPlateOf
namespace Go.Proofs.Ytloebnlmeplgbaa
theorem plateOf_holds : Rows.FnExactPlateOfSaid := LawPlateOf.over
#print axioms plateOf_holds
end Go.Proofs.Ytloebnlmeplgbaa
