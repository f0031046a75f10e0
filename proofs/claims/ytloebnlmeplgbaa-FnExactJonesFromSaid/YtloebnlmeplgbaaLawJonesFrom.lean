/- At every four numbers the program's JonesFrom answers as the specification, code and light; nothing that was there is changed. -/
import Derived.Test.YtloebnlmeplgbaaJs
import Derived.Test.YtloebnlmeplgbaaTl
import Derived.Test.YtloebnlmeplgbaaOz
import Derived.Handy
import Derived.Deep.RegionHeld3
import Derived.Deep.DeepCutAuto
namespace Go.Proofs.Ytloebnlmeplgbaa.LawJonesFrom
open Go.ChangeShapes Go.WideShapes Go.ChangeAt Go.RowKit Go.Joins
set_option linter.unusedVariables false

set_option maxRecDepth 20000 in
set_option maxHeartbeats 3200000 in
theorem walk (a : Sk) (w : World) : Calls Try.prog 15 #[.agg #[.int .i64 a.i, .int .i64 a.q, .int .i64 a.u, .int .i64 a.v]] w fun e w' => e = .returned (.bool true) ∧ Below w.heap.size w w' := by
  go_enter Try.func15, Try.ntmps15
  have HO : Hid (Below w.heap.size w w) := Below.refl _ _
  go_upto_region 1 with fail
  obtain ⟨v1, hv⟩ : ∃ Xw, Xw = (w.alloc (.cells #[.int .i64 a.i, .int .i64 a.q, .int .i64 a.u, .int .i64 a.v] 75)) := ⟨_, rfl⟩
  rw [← hv]
  have B_a : Hid (Blk v1 (w.heap.size) #[.int .i64 a.i, .int .i64 a.q, .int .i64 a.u, .int .i64 a.v] 75) := by show Blk v1 (w.heap.size) _ _; rw [hv]; exact (Blk.new (by simp))
  have low_a : Hid (w.heap.size ≤ w.heap.size) := by show w.heap.size ≤ w.heap.size; have := HO.out.size; omega
  replace HO : Hid (Below w.heap.size w v1) := by show Below w.heap.size w v1; rw [hv]; exact (below_new HO.out _)
  clear hv
  have a_0 := B_a.out.cell (j := 0) rfl
  have a_1 := B_a.out.cell (j := 1) rfl
  have a_2 := B_a.out.cell (j := 2) rfl
  have a_3 := B_a.out.cell (j := 3) rfl
  have a_f := B_a.out.frozen
  have a_z := B_a.out.lt
  go_wp2_with fail
  refine (toStokes_any a _).mono ?_
  rintro e v2 ⟨rfl, hb⟩
  clear a_0 a_1 a_2 a_3 a_f a_z
  replace B_a : Hid (Blk v2 (w.heap.size) #[.int .i64 a.i, .int .i64 a.q, .int .i64 a.u, .int .i64 a.v] 75) := by show Blk v2 (w.heap.size) _ _; exact Blk.old B_a.out hb
  replace HO : Hid (Below w.heap.size w v2) := box_step HO.out hb (Nat.le_refl _)
  clear hb
  go_wp2_with fail
  refine (sjf a _).mono ?_
  rintro e v3 ⟨c, l, rfl, hA, hb⟩
  replace B_a : Hid (Blk v3 (w.heap.size) #[.int .i64 a.i, .int .i64 a.q, .int .i64 a.u, .int .i64 a.v] 75) := by show Blk v3 (w.heap.size) _ _; exact Blk.old B_a.out hb
  replace HO : Hid (Below w.heap.size w v3) := box_step HO.out hb (Nat.le_refl _)
  clear hb
  replace hA : Hid (JAns a c l) := hA
  go_upto_region 2 with fail
  obtain ⟨v4, hv⟩ : ∃ Xw, Xw = (v3.alloc (.cells #[.int .i64 c, .int .i64 l.x.re, .int .i64 l.x.im, .int .i64 l.y.re, .int .i64 l.y.im] 33)) := ⟨_, rfl⟩
  rw [← hv]
  have ne_a_s0 : Hid (w.heap.size ≠ v3.heap.size) := Nat.ne_of_lt (Nat.lt_of_lt_of_le B_a.out.lt (by omega))
  have B_s0 : Hid (Blk v4 (v3.heap.size) #[.int .i64 c, .int .i64 l.x.re, .int .i64 l.x.im, .int .i64 l.y.re, .int .i64 l.y.im] 33) := by show Blk v4 (v3.heap.size) _ _; rw [hv]; exact (Blk.new (by simp))
  have low_s0 : Hid (w.heap.size ≤ v3.heap.size) := by show w.heap.size ≤ v3.heap.size; have := HO.out.size; omega
  replace B_a : Hid (Blk v4 (w.heap.size) #[.int .i64 a.i, .int .i64 a.q, .int .i64 a.u, .int .i64 a.v] 75) := by show Blk v4 (w.heap.size) _ _; rw [hv]; exact (Blk.alloc B_a.out _)
  replace HO : Hid (Below w.heap.size w v4) := by show Below w.heap.size w v4; rw [hv]; exact (below_new HO.out _)
  clear hv
  have a_0 := B_a.out.cell (j := 0) rfl
  have a_1 := B_a.out.cell (j := 1) rfl
  have a_2 := B_a.out.cell (j := 2) rfl
  have a_3 := B_a.out.cell (j := 3) rfl
  have a_f := B_a.out.frozen
  have a_z := B_a.out.lt
  go_wp2_with fail
  refine (toStokes_any a _).mono ?_
  rintro e v5 ⟨rfl, hb⟩
  clear a_0 a_1 a_2 a_3 a_f a_z
  replace B_a : Hid (Blk v5 (w.heap.size) #[.int .i64 a.i, .int .i64 a.q, .int .i64 a.u, .int .i64 a.v] 75) := by show Blk v5 (w.heap.size) _ _; exact Blk.old B_a.out hb
  replace B_s0 : Hid (Blk v5 (v3.heap.size) #[.int .i64 c, .int .i64 l.x.re, .int .i64 l.x.im, .int .i64 l.y.re, .int .i64 l.y.im] 33) := by show Blk v5 (v3.heap.size) _ _; exact Blk.old B_s0.out hb
  replace HO : Hid (Below w.heap.size w v5) := box_step HO.out hb (Nat.le_refl _)
  clear hb
  go_wp2_with fail
  refine (ijf a _).mono ?_
  rintro e v6 ⟨c2, l2, rfl, hA2, hb⟩
  replace B_a : Hid (Blk v6 (w.heap.size) #[.int .i64 a.i, .int .i64 a.q, .int .i64 a.u, .int .i64 a.v] 75) := by show Blk v6 (w.heap.size) _ _; exact Blk.old B_a.out hb
  replace B_s0 : Hid (Blk v6 (v3.heap.size) #[.int .i64 c, .int .i64 l.x.re, .int .i64 l.x.im, .int .i64 l.y.re, .int .i64 l.y.im] 33) := by show Blk v6 (v3.heap.size) _ _; exact Blk.old B_s0.out hb
  replace HO : Hid (Below w.heap.size w v6) := box_step HO.out hb (Nat.le_refl _)
  clear hb
  obtain ⟨h1, h2⟩ := hA2.uniq hA.out
  rw [h1, h2]
  clear h1 h2 hA2 hA
  go_upto_region 3 with fail
  obtain ⟨v7, hv⟩ : ∃ Xw, Xw = (v6.alloc (.cells #[.int .i64 c, .int .i64 l.x.re, .int .i64 l.x.im, .int .i64 l.y.re, .int .i64 l.y.im] 33)) := ⟨_, rfl⟩
  rw [← hv]
  have ne_a_g0 : Hid (w.heap.size ≠ v6.heap.size) := Nat.ne_of_lt (Nat.lt_of_lt_of_le B_a.out.lt (by omega))
  have ne_s0_g0 : Hid (v3.heap.size ≠ v6.heap.size) := Nat.ne_of_lt (Nat.lt_of_lt_of_le B_s0.out.lt (by omega))
  have B_g0 : Hid (Blk v7 (v6.heap.size) #[.int .i64 c, .int .i64 l.x.re, .int .i64 l.x.im, .int .i64 l.y.re, .int .i64 l.y.im] 33) := by show Blk v7 (v6.heap.size) _ _; rw [hv]; exact (Blk.new (by simp))
  have low_g0 : Hid (w.heap.size ≤ v6.heap.size) := by show w.heap.size ≤ v6.heap.size; have := HO.out.size; omega
  replace B_a : Hid (Blk v7 (w.heap.size) #[.int .i64 a.i, .int .i64 a.q, .int .i64 a.u, .int .i64 a.v] 75) := by show Blk v7 (w.heap.size) _ _; rw [hv]; exact (Blk.alloc B_a.out _)
  replace B_s0 : Hid (Blk v7 (v3.heap.size) #[.int .i64 c, .int .i64 l.x.re, .int .i64 l.x.im, .int .i64 l.y.re, .int .i64 l.y.im] 33) := by show Blk v7 (v3.heap.size) _ _; rw [hv]; exact (Blk.alloc B_s0.out _)
  replace HO : Hid (Below w.heap.size w v7) := by show Below w.heap.size w v7; rw [hv]; exact (below_new HO.out _)
  clear hv
  have s0_0 := B_s0.out.cell (j := 0) rfl
  have s0_1 := B_s0.out.cell (j := 1) rfl
  have s0_2 := B_s0.out.cell (j := 2) rfl
  have s0_3 := B_s0.out.cell (j := 3) rfl
  have s0_4 := B_s0.out.cell (j := 4) rfl
  have s0_f := B_s0.out.frozen
  have s0_z := B_s0.out.lt
  have g0_0 := B_g0.out.cell (j := 0) rfl
  have g0_1 := B_g0.out.cell (j := 1) rfl
  have g0_2 := B_g0.out.cell (j := 2) rfl
  have g0_3 := B_g0.out.cell (j := 3) rfl
  have g0_4 := B_g0.out.cell (j := 4) rfl
  have g0_f := B_g0.out.frozen
  have g0_z := B_g0.out.lt
  go_wp2_with fail
  refine (eqJR_same c l.x l.y _).mono ?_
  rintro e v8 ⟨rfl, hb⟩
  clear s0_0 s0_1 s0_2 s0_3 s0_4 s0_f s0_z g0_0 g0_1 g0_2 g0_3 g0_4 g0_f g0_z
  replace B_a : Hid (Blk v8 (w.heap.size) #[.int .i64 a.i, .int .i64 a.q, .int .i64 a.u, .int .i64 a.v] 75) := by show Blk v8 (w.heap.size) _ _; exact Blk.old B_a.out hb
  replace B_s0 : Hid (Blk v8 (v3.heap.size) #[.int .i64 c, .int .i64 l.x.re, .int .i64 l.x.im, .int .i64 l.y.re, .int .i64 l.y.im] 33) := by show Blk v8 (v3.heap.size) _ _; exact Blk.old B_s0.out hb
  replace B_g0 : Hid (Blk v8 (v6.heap.size) #[.int .i64 c, .int .i64 l.x.re, .int .i64 l.x.im, .int .i64 l.y.re, .int .i64 l.y.im] 33) := by show Blk v8 (v6.heap.size) _ _; exact Blk.old B_g0.out hb
  replace HO : Hid (Below w.heap.size w v8) := box_step HO.out hb (Nat.le_refl _)
  clear hb
  go_wp2
  go_ret
  exact ⟨rfl, HO.out⟩

set_option maxRecDepth 100000 in
theorem lifted (os : Os) (started : os.Started) (H : Type) (enc : TypeId × Value → H) :
    ReturnsInHanded {} Try.checked os 15 .any (Rows.fnExactJonesFromSpec.pre6 enc Try.prog Try.f15 Rows.fnExactJonesFromRow.domain false) (Rows.fnExactJonesFromSpec.post enc Try.prog Try.f15 false true false false) := by
  refine returnsInHanded_of_change (C := Try.checked) own started (by kernel_rfl) Try.func15
    (ChangeSpec.witness6 (enc := enc) (C := Try.checked) false ⟨#[], #[.agg #[.int .i64 0, .int .i64 0, .int .i64 0, .int .i64 0]], []⟩ 8 (by kernel_rfl) (by kernel_rfl) (by kernel_rfl) (by kernel_rfl)) ?_
  intro W base args ds gs before hval0 hW hcnd _
  have hval : ∀ (j : Nat) t v, Try.f15.params[j]? = some t → args[j]? = some v → Value.okWide Try.prog W .any base t v := hval0
  have hW' := hW
  obtain ⟨p, q, hA0, hV, rfl, hfz, hnd⟩ := hW
  have hA : DataW.TrodAll enc Try.prog W 0 (fun _ => true) true Try.f15.params.toList args.toList ds p := hA0
  rw [Try.params15] at hA hval
  obtain ⟨v0, vs0, d0, ds0, p0, q0, hargs, rfl, rfl, h0, r0⟩ := trodAll_cons hA
  obtain ⟨rfl, rfl, rfl⟩ := trodAll_nil r0
  obtain rfl : args = #[v0] := by cases args; simp_all
  obtain ⟨rfl, rfl⟩ := trodVars_none hV
  have k0 := h0
  have lt0 : ∀ x ∈ p0, x.block < W.heap.size := by obtain ⟨m, hm⟩ := k0; exact DataW.trod_lt m _ _ _ hm
  obtain ⟨a0, rfl⟩ := open_stokes (hval 0 75 v0 rfl rfl) h0
  clear hA0 hval0
  refine (walk a0 W).mono fun e W' ⟨he, bel⟩ => ?_
  subst he
  exact ⟨_, rfl, _, _, _, [], _, [], hW', trodAll_mk1 (shut_bool Try.underlying4 _), (trodAll_cons_mk (Below.trod laidOut (by kernel_rfl) (of_decide_eq_true (by kernel_rfl)) k0 bel lt0) trodAll_mk0), rfl, bel.frame _, fun h => by cases h⟩

theorem over : Rows.fnExactJonesFromRow.holds Try.pinned (OpenSpec.ofChange Rows.fnExactJonesFromSpec) :=
  OpenClaim.holds_of_wide 15 Try.f15 rfl rfl rfl rfl rfl rfl rfl ⟨rfl, rfl, rfl, rfl, rfl⟩ rfl rfl rfl rfl rfl (by kernel_rfl) Try.func15 (by kernel_rfl)
    (of_decide_eq_true (by kernel_rfl)) (by unfold Func.isWrapper; first | (rw [if_pos (by decide +kernel)]; kernel_rfl) | (rw [if_neg (by decide +kernel)]; exact ⟨rfl, rfl⟩))
    (fun os started H enc _ => lifted os started H enc)
end Go.Proofs.Ytloebnlmeplgbaa.LawJonesFrom
namespace Go.Proofs.Ytloebnlmeplgbaa
theorem jonesFrom_holds : Rows.FnExactJonesFromSaid := LawJonesFrom.over
#print axioms jonesFrom_holds
end Go.Proofs.Ytloebnlmeplgbaa
