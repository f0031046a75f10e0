/- At every laser the program's LaserFault answers as the specification; nothing that was there is changed. -/
import Derived.Test.YtkkajcdjkfbcgaaOp
import Derived.Handy
import Derived.Deep.RegionHeld3
import Derived.Deep.DeepCutAuto
namespace Go.Proofs.Ytkkajcdjkfbcgaa.LawLaserFault
open Go.ChangeShapes Go.WideShapes Go.ChangeAt Go.RowKit Go.Joins
set_option linter.unusedVariables false

set_option maxRecDepth 20000 in
set_option maxHeartbeats 1600000 in
theorem walk (a : La) (w : World) : Calls Try.prog 10 #[.agg #[.int .i64 a.g, .int .i64 a.l, .int .i64 a.s, .int .i64 a.p]] w fun e w' => e = .returned (.bool true) ∧ Below w.heap.size w w' := by
  have hbk : Blk (w.alloc (.cells #[.int .i64 a.g, .int .i64 a.l, .int .i64 a.s, .int .i64 a.p] 73)) w.heap.size #[.int .i64 a.g, .int .i64 a.l, .int .i64 a.s, .int .i64 a.p] 73 := Blk.new rfl
  have hO : Below w.heap.size w (w.alloc (.cells #[.int .i64 a.g, .int .i64 a.l, .int .i64 a.s, .int .i64 a.p] 73)) := (Below.refl _ _).alloc (Nat.le_refl _) _
  obtain ⟨w0, hw0⟩ : ∃ W, W = w.alloc (.cells #[.int .i64 a.g, .int .i64 a.l, .int .i64 a.s, .int .i64 a.p] 73) := ⟨_, rfl⟩
  rw [← hw0] at hbk hO
  have HB : Hid (Blk w0 w.heap.size #[.int .i64 a.g, .int .i64 a.l, .int .i64 a.s, .int .i64 a.p] 73) := hbk
  have HO : Hid (Below w.heap.size w w0) := hO
  clear hbk hO
  go_enter Try.func10, Try.ntmps10
  go_upto_region 1 with fail
  rw [← hw0]
  clear hw0
  have c0 := HB.out.cell (j := 0) (v := .int .i64 a.g) rfl
  have c1 := HB.out.cell (j := 1) (v := .int .i64 a.l) rfl
  have c2 := HB.out.cell (j := 2) (v := .int .i64 a.s) rfl
  have c3 := HB.out.cell (j := 3) (v := .int .i64 a.p) rfl
  go_wp2_with fail
  refine (toLaser_any a _).mono ?_
  rintro e w1 ⟨rfl, b⟩
  replace HB : Hid (Blk w1 w.heap.size #[.int .i64 a.g, .int .i64 a.l, .int .i64 a.s, .int .i64 a.p] 73) := HB.out.later b
  replace HO : Hid (Below w.heap.size w w1) := HO.out.trans (b.mono HO.out.size)
  clear b c0 c1 c2 c3
  have c0 := HB.out.cell (j := 0) (v := .int .i64 a.g) rfl
  have c1 := HB.out.cell (j := 1) (v := .int .i64 a.l) rfl
  have c2 := HB.out.cell (j := 2) (v := .int .i64 a.s) rfl
  have c3 := HB.out.cell (j := 3) (v := .int .i64 a.p) rfl
  go_wp2_with fail
  refine (lfault_s a _).mono ?_
  rintro e w1 ⟨rfl, b⟩
  replace HB : Hid (Blk w1 w.heap.size #[.int .i64 a.g, .int .i64 a.l, .int .i64 a.s, .int .i64 a.p] 73) := HB.out.later b
  replace HO : Hid (Below w.heap.size w w1) := HO.out.trans (b.mono HO.out.size)
  clear b c0 c1 c2 c3
  have c0 := HB.out.cell (j := 0) (v := .int .i64 a.g) rfl
  have c1 := HB.out.cell (j := 1) (v := .int .i64 a.l) rfl
  have c2 := HB.out.cell (j := 2) (v := .int .i64 a.s) rfl
  have c3 := HB.out.cell (j := 3) (v := .int .i64 a.p) rfl
  go_wp2_with fail
  refine (toLaser_any a _).mono ?_
  rintro e w1 ⟨rfl, b⟩
  replace HB : Hid (Blk w1 w.heap.size #[.int .i64 a.g, .int .i64 a.l, .int .i64 a.s, .int .i64 a.p] 73) := HB.out.later b
  replace HO : Hid (Below w.heap.size w w1) := HO.out.trans (b.mono HO.out.size)
  clear b c0 c1 c2 c3
  have c0 := HB.out.cell (j := 0) (v := .int .i64 a.g) rfl
  have c1 := HB.out.cell (j := 1) (v := .int .i64 a.l) rfl
  have c2 := HB.out.cell (j := 2) (v := .int .i64 a.s) rfl
  have c3 := HB.out.cell (j := 3) (v := .int .i64 a.p) rfl
  go_wp2_with fail
  refine (lfault_i a _).mono ?_
  rintro e w1 ⟨rfl, b⟩
  replace HB : Hid (Blk w1 w.heap.size #[.int .i64 a.g, .int .i64 a.l, .int .i64 a.s, .int .i64 a.p] 73) := HB.out.later b
  replace HO : Hid (Below w.heap.size w w1) := HO.out.trans (b.mono HO.out.size)
  clear b c0 c1 c2 c3
  go_wp2
  go_ret
  exact ⟨rfl, HO.out⟩

set_option maxRecDepth 100000 in
theorem lifted (os : Os) (started : os.Started) (H : Type) (enc : TypeId × Value → H) :
    ReturnsInHanded {} Try.checked os 10 .any (Rows.fnExactLaserFaultSpec.pre6 enc Try.prog Try.f10 Rows.fnExactLaserFaultRow.domain false) (Rows.fnExactLaserFaultSpec.post enc Try.prog Try.f10 false true false false) := by
  refine returnsInHanded_of_change (C := Try.checked) own started (by kernel_rfl) Try.func10
    (ChangeSpec.witness6 (enc := enc) (C := Try.checked) false ⟨#[], #[.agg #[.int .i64 0, .int .i64 0, .int .i64 0, .int .i64 0]], []⟩ 8 (by kernel_rfl) (by kernel_rfl) (by kernel_rfl) (by kernel_rfl)) ?_
  intro W base args ds gs before hval0 hW hcnd _
  have hval : ∀ (j : Nat) t v, Try.f10.params[j]? = some t → args[j]? = some v → Value.okWide Try.prog W .any base t v := hval0
  have hW' := hW
  obtain ⟨p, q, hA0, hV, rfl, hfz, hnd⟩ := hW
  have hA : DataW.TrodAll enc Try.prog W 0 (fun _ => true) true Try.f10.params.toList args.toList ds p := hA0
  rw [Try.params10] at hA hval
  obtain ⟨v0, vs0, d0, ds0, p0, q0, hargs, rfl, rfl, h0, r0⟩ := trodAll_cons hA
  obtain ⟨rfl, rfl, rfl⟩ := trodAll_nil r0
  obtain rfl : args = #[v0] := by cases args; simp_all
  obtain ⟨rfl, rfl⟩ := trodVars_none hV
  have k0 := h0
  have lt0 : ∀ x ∈ p0, x.block < W.heap.size := by obtain ⟨m, hm⟩ := k0; exact DataW.trod_lt m _ _ _ hm
  obtain ⟨n0, rfl⟩ := open_laser (hval 0 73 v0 rfl rfl) h0
  clear hA0 hval0
  refine (walk n0 W).mono fun e W' ⟨he, bel⟩ => ?_
  subst he
  exact ⟨_, rfl, _, _, _, [], _, [], hW', trodAll_mk1 (shut_bool Try.underlying4 _), (trodAll_cons_mk (Below.trod laidOut (by kernel_rfl) (of_decide_eq_true (by kernel_rfl)) k0 bel lt0) trodAll_mk0), rfl, bel.frame _, fun h => by cases h⟩

theorem over : Rows.fnExactLaserFaultRow.holds Try.pinned (OpenSpec.ofChange Rows.fnExactLaserFaultSpec) :=
  OpenClaim.holds_of_wide 10 Try.f10 rfl rfl rfl rfl rfl rfl rfl ⟨rfl, rfl, rfl, rfl, rfl⟩ rfl rfl rfl rfl rfl (by kernel_rfl) Try.func10 (by kernel_rfl)
    (of_decide_eq_true (by kernel_rfl)) (by unfold Func.isWrapper; first | (rw [if_pos (by decide +kernel)]; kernel_rfl) | (rw [if_neg (by decide +kernel)]; exact ⟨rfl, rfl⟩))
    (fun os started H enc _ => lifted os started H enc)
end Go.Proofs.Ytkkajcdjkfbcgaa.LawLaserFault
namespace Go.Proofs.Ytkkajcdjkfbcgaa
theorem laserFault_holds : Rows.FnExactLaserFaultSaid := LawLaserFault.over
#print axioms laserFault_holds
end Go.Proofs.Ytkkajcdjkfbcgaa
