/- At every part that comes in, right or not, the program's PartFault answers as the specification, field by field; nothing that was there is changed. -/
import Derived.Test.YtnikgmjjkdhjbaaOz
import Derived.Test.YtnikgmjjkdhjbaaRows
import Derived.Deep.RegionHeld3
import Derived.Deep.DeepCutAuto
namespace Go.Proofs.Ytnikgmjjkdhjbaa.LawPartFault
open Go.ChangeShapes Go.WideShapes Go.ChangeAt Go.RowKit Go.Joins
set_option linter.unusedVariables false
set_option linter.unusedSimpArgs false
set_option maxRecDepth 20000 in
set_option maxHeartbeats 3200000 in
theorem walk (k : Int) (x : Q) (w : World) : Calls Try.prog 4 #[.agg #[.int .i64 k, .int .i64 x.n, .int .i64 x.d]] w fun e w' => e = .returned (.bool true) ∧ Below w.heap.size w w' := by
  go_enter Try.func4, Try.ntmps4
  go_wp2_with fail
  refine (toPart k x _).mono ?_
  rintro e w1 ⟨rfl, hb⟩
  have HO : Hid (Below w.heap.size w w1) := by refine box_step ?_ hb (by simp <;> omega); go_grown
  have X0 : Blk w1 (w.heap.size) #[.int .i64 k, .int .i64 x.n, .int .i64 x.d] 42 := Blk.old ((Blk.new (by simp))) hb
  have K0 : Hid (w1.cell? ⟨w.heap.size, 0, none⟩ = some (.int .i64 k)) := X0.cell rfl
  have K1 : Hid (w1.cell? ⟨w.heap.size, 1, none⟩ = some (.int .i64 x.n)) := X0.cell rfl
  have K2 : Hid (w1.cell? ⟨w.heap.size, 2, none⟩ = some (.int .i64 x.d)) := X0.cell rfl
  clear X0
  clear hb
  go_wp2_with fail
  refine (spfault k x _).mono ?_
  rintro e w2 ⟨rfl, hb⟩
  have HO : Hid (Below w.heap.size w w2) := by have h := HO.out; have hs := h.size; refine box_step ?_ hb (by first | exact hs | (simp <;> omega)); go_grown
  have K3 : Hid (w2.cell? ⟨w.heap.size, 0, none⟩ = some (.int .i64 k)) := kold hb (K0.out)
  have K4 : Hid (w2.cell? ⟨w.heap.size, 1, none⟩ = some (.int .i64 x.n)) := kold hb (K1.out)
  have K5 : Hid (w2.cell? ⟨w.heap.size, 2, none⟩ = some (.int .i64 x.d)) := kold hb (K2.out)
  clear K0 K1 K2
  clear hb
  have c0 := K3.out
  have c1 := K4.out
  have c2 := K5.out
  go_wp2_with fail
  refine (toPart k x _).mono ?_
  rintro e w3 ⟨rfl, hb⟩
  clear c0 c1 c2
  have HO : Hid (Below w.heap.size w w3) := by have h := HO.out; have hs := h.size; refine box_step ?_ hb (by first | exact hs | (simp <;> omega)); go_grown
  have K6 : Hid (w3.cell? ⟨w.heap.size, 0, none⟩ = some (.int .i64 k)) := kold hb (K3.out)
  have K7 : Hid (w3.cell? ⟨w.heap.size, 1, none⟩ = some (.int .i64 x.n)) := kold hb (K4.out)
  have K8 : Hid (w3.cell? ⟨w.heap.size, 2, none⟩ = some (.int .i64 x.d)) := kold hb (K5.out)
  clear K3 K4 K5
  clear hb
  go_wp2_with fail
  refine (ipfault k x _).mono ?_
  rintro e w4 ⟨rfl, hb⟩
  have HO : Hid (Below w.heap.size w w4) := by have h := HO.out; have hs := h.size; refine box_step ?_ hb (by first | exact hs | (simp <;> omega)); go_grown
  have K9 : Hid (w4.cell? ⟨w.heap.size, 0, none⟩ = some (.int .i64 k)) := kold hb (K6.out)
  have K10 : Hid (w4.cell? ⟨w.heap.size, 1, none⟩ = some (.int .i64 x.n)) := kold hb (K7.out)
  have K11 : Hid (w4.cell? ⟨w.heap.size, 2, none⟩ = some (.int .i64 x.d)) := kold hb (K8.out)
  clear K6 K7 K8
  clear hb
  go_wp2
  go_ret
  refine ⟨by first | rfl | simp, ?_⟩
  have h := HO.out
  have hsz := h.size
  go_grown
set_option maxRecDepth 100000 in
theorem lifted (os : Os) (started : os.Started) (H : Type) (enc : TypeId × Value → H) :
    ReturnsInHanded {} Try.checked os 4 .any (Rows.fnExactPartFaultSpec.pre6 enc Try.prog Try.f4 Rows.fnExactPartFaultRow.domain false) (Rows.fnExactPartFaultSpec.post enc Try.prog Try.f4 false true false false) := by
  refine returnsInHanded_of_change (C := Try.checked) own started (by kernel_rfl) Try.func4
    (ChangeSpec.witness6 (enc := enc) (C := Try.checked) false ⟨#[], #[.agg #[.int .i64 0, .int .i64 0, .int .i64 0]], []⟩ 8 (by kernel_rfl) (by kernel_rfl) (by kernel_rfl) (by kernel_rfl)) ?_
  intro W base args ds gs before hval0 hW hcnd _
  have hval : ∀ (j : Nat) t v, Try.f4.params[j]? = some t → args[j]? = some v → Value.okWide Try.prog W .any base t v := hval0
  have hW' := hW
  obtain ⟨p, q, hA0, hV, rfl, hfz, hnd⟩ := hW
  have hA : DataW.TrodAll enc Try.prog W 0 (fun _ => true) true Try.f4.params.toList args.toList ds p := hA0
  rw [Try.params4] at hA hval
  obtain ⟨v0, vs0, d0, ds0, p0, q0, hargs, rfl, rfl, h0, r0⟩ := trodAll_cons hA
  obtain ⟨rfl, rfl, rfl⟩ := trodAll_nil r0
  obtain rfl : args = #[v0] := by cases args; simp_all
  obtain ⟨rfl, rfl⟩ := trodVars_none hV
  have k0 := h0
  have lt0 : ∀ x ∈ p0, x.block < W.heap.size := by obtain ⟨m, hm⟩ := k0; exact DataW.trod_lt m _ _ _ hm
  obtain ⟨k0k, a0, rfl⟩ := open_part (hval 0 42 v0 rfl rfl) h0
  clear hA0 hval0
  refine (walk k0k a0 W).mono fun e W' ⟨he, bel⟩ => ?_
  subst he
  exact ⟨_, rfl, _, _, _, [], _, [], hW', trodAll_mk1 (shut_bool Try.underlying4 _), (trodAll_cons_mk (Below.trod laidOut (by kernel_rfl) (of_decide_eq_true (by kernel_rfl)) k0 bel lt0) trodAll_mk0), rfl, bel.frame _, fun h => by cases h⟩

theorem over : Rows.fnExactPartFaultRow.holds Try.pinned (OpenSpec.ofChange Rows.fnExactPartFaultSpec) :=
  OpenClaim.holds_of_wide 4 Try.f4 rfl rfl rfl rfl rfl rfl rfl ⟨rfl, rfl, rfl, rfl, rfl⟩ rfl rfl rfl rfl rfl (by kernel_rfl) Try.func4 (by kernel_rfl)
    (of_decide_eq_true (by kernel_rfl)) (by unfold Func.isWrapper; first | (rw [if_pos (by decide +kernel)]; kernel_rfl) | (rw [if_neg (by decide +kernel)]; exact ⟨rfl, rfl⟩))
    (fun os started H enc _ => lifted os started H enc)
end Go.Proofs.Ytnikgmjjkdhjbaa.LawPartFault
namespace Go.Proofs.Ytnikgmjjkdhjbaa
theorem partFault_holds : Rows.FnExactPartFaultSaid := LawPartFault.over
#print axioms partFault_holds
end Go.Proofs.Ytnikgmjjkdhjbaa
