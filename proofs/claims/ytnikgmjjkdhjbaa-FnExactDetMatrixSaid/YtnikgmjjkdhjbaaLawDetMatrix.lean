/- At every system that comes in, right or not, the program's DetMatrix answers as the specification, field by field; nothing that was there is changed. -/
import Derived.Test.YtnikgmjjkdhjbaaOz
import Derived.Test.YtnikgmjjkdhjbaaDt
import Derived.Test.YtnikgmjjkdhjbaaRows
import Derived.Deep.RegionHeld3
import Derived.Deep.DeepCutAuto
namespace Go.Proofs.Ytnikgmjjkdhjbaa.LawDetMatrix
open Go.ChangeShapes Go.WideShapes Go.ChangeAt Go.RowKit Go.Joins
set_option linter.unusedVariables false
set_option linter.unusedSimpArgs false
set_option maxRecDepth 20000 in
set_option maxHeartbeats 3200000 in
theorem walk (m : Mx) (w : World) : Calls Try.prog 8 #[.agg #[.int .i64 m.A.n, .int .i64 m.A.d, .int .i64 m.B.n, .int .i64 m.B.d, .int .i64 m.C.n, .int .i64 m.C.d, .int .i64 m.D.n, .int .i64 m.D.d]] w fun e w' => e = .returned (.bool true) ∧ Below w.heap.size w w' := by
  go_enter Try.func8, Try.ntmps8
  go_wp2_with fail
  refine (toMat m _).mono ?_
  rintro e w1 ⟨rfl, hb⟩
  have HO : Hid (Below w.heap.size w w1) := by refine box_step ?_ hb (by simp <;> omega); go_grown
  have X0 : Blk w1 (w.heap.size) #[.int .i64 m.A.n, .int .i64 m.A.d, .int .i64 m.B.n, .int .i64 m.B.d, .int .i64 m.C.n, .int .i64 m.C.d, .int .i64 m.D.n, .int .i64 m.D.d] 53 := Blk.old ((Blk.new (by simp))) hb
  have K0 : Hid (w1.cell? ⟨w.heap.size, 0, none⟩ = some (.int .i64 m.A.n)) := X0.cell rfl
  have K1 : Hid (w1.cell? ⟨w.heap.size, 1, none⟩ = some (.int .i64 m.A.d)) := X0.cell rfl
  have K2 : Hid (w1.cell? ⟨w.heap.size, 2, none⟩ = some (.int .i64 m.B.n)) := X0.cell rfl
  have K3 : Hid (w1.cell? ⟨w.heap.size, 3, none⟩ = some (.int .i64 m.B.d)) := X0.cell rfl
  have K4 : Hid (w1.cell? ⟨w.heap.size, 4, none⟩ = some (.int .i64 m.C.n)) := X0.cell rfl
  have K5 : Hid (w1.cell? ⟨w.heap.size, 5, none⟩ = some (.int .i64 m.C.d)) := X0.cell rfl
  have K6 : Hid (w1.cell? ⟨w.heap.size, 6, none⟩ = some (.int .i64 m.D.n)) := X0.cell rfl
  have K7 : Hid (w1.cell? ⟨w.heap.size, 7, none⟩ = some (.int .i64 m.D.d)) := X0.cell rfl
  clear X0
  clear hb
  go_wp2_with fail
  refine (sdet m _).mono ?_
  rintro e w2 ⟨rfl, hb⟩
  have HO : Hid (Below w.heap.size w w2) := by have h := HO.out; have hs := h.size; refine box_step ?_ hb (by first | exact hs | (simp <;> omega)); go_grown
  have K8 : Hid (w2.cell? ⟨w.heap.size, 0, none⟩ = some (.int .i64 m.A.n)) := kold hb (K0.out)
  have K9 : Hid (w2.cell? ⟨w.heap.size, 1, none⟩ = some (.int .i64 m.A.d)) := kold hb (K1.out)
  have K10 : Hid (w2.cell? ⟨w.heap.size, 2, none⟩ = some (.int .i64 m.B.n)) := kold hb (K2.out)
  have K11 : Hid (w2.cell? ⟨w.heap.size, 3, none⟩ = some (.int .i64 m.B.d)) := kold hb (K3.out)
  have K12 : Hid (w2.cell? ⟨w.heap.size, 4, none⟩ = some (.int .i64 m.C.n)) := kold hb (K4.out)
  have K13 : Hid (w2.cell? ⟨w.heap.size, 5, none⟩ = some (.int .i64 m.C.d)) := kold hb (K5.out)
  have K14 : Hid (w2.cell? ⟨w.heap.size, 6, none⟩ = some (.int .i64 m.D.n)) := kold hb (K6.out)
  have K15 : Hid (w2.cell? ⟨w.heap.size, 7, none⟩ = some (.int .i64 m.D.d)) := kold hb (K7.out)
  clear K0 K1 K2 K3 K4 K5 K6 K7
  clear hb
  have c0 := K8.out
  have c1 := K9.out
  have c2 := K10.out
  have c3 := K11.out
  have c4 := K12.out
  have c5 := K13.out
  have c6 := K14.out
  have c7 := K15.out
  have z0 : w.heap.size < w2.heap.size := World.block_lt_of_cell? _ _ K8.out
  go_wp2_with fail
  refine (toMat m _).mono ?_
  rintro e w3 ⟨rfl, hb⟩
  clear c0 c1 c2 c3 c4 c5 c6 c7 z0
  have HO : Hid (Below w.heap.size w w3) := by have h := HO.out; have hs := h.size; refine box_step ?_ hb (by first | exact hs | (simp <;> omega)); go_grown
  have K16 : Hid (w3.cell? ⟨w.heap.size, 0, none⟩ = some (.int .i64 m.A.n)) := kold hb ((cell_old K8.out))
  have K17 : Hid (w3.cell? ⟨w.heap.size, 1, none⟩ = some (.int .i64 m.A.d)) := kold hb ((cell_old K9.out))
  have K18 : Hid (w3.cell? ⟨w.heap.size, 2, none⟩ = some (.int .i64 m.B.n)) := kold hb ((cell_old K10.out))
  have K19 : Hid (w3.cell? ⟨w.heap.size, 3, none⟩ = some (.int .i64 m.B.d)) := kold hb ((cell_old K11.out))
  have K20 : Hid (w3.cell? ⟨w.heap.size, 4, none⟩ = some (.int .i64 m.C.n)) := kold hb ((cell_old K12.out))
  have K21 : Hid (w3.cell? ⟨w.heap.size, 5, none⟩ = some (.int .i64 m.C.d)) := kold hb ((cell_old K13.out))
  have K22 : Hid (w3.cell? ⟨w.heap.size, 6, none⟩ = some (.int .i64 m.D.n)) := kold hb ((cell_old K14.out))
  have K23 : Hid (w3.cell? ⟨w.heap.size, 7, none⟩ = some (.int .i64 m.D.d)) := kold hb ((cell_old K15.out))
  have K24 : Hid (w3.cell? ⟨w2.heap.size, 0, none⟩ = some (.int .i64 (apC m.A m.D m.B m.C))) := kold hb (cell_new (by simp) rfl)
  have K25 : Hid (w3.cell? ⟨w2.heap.size, 1, none⟩ = some (.int .i64 (sel (apC m.A m.D m.B m.C) (apQ m.A m.D m.B m.C)).n)) := kold hb (cell_new (by simp) rfl)
  have K26 : Hid (w3.cell? ⟨w2.heap.size, 2, none⟩ = some (.int .i64 (sel (apC m.A m.D m.B m.C) (apQ m.A m.D m.B m.C)).d)) := kold hb (cell_new (by simp) rfl)
  clear K8 K9 K10 K11 K12 K13 K14 K15
  clear hb
  go_wp2_with fail
  refine (idet m _).mono ?_
  rintro e w4 ⟨rfl, hb⟩
  have HO : Hid (Below w.heap.size w w4) := by have h := HO.out; have hs := h.size; refine box_step ?_ hb (by first | exact hs | (simp <;> omega)); go_grown
  have K27 : Hid (w4.cell? ⟨w.heap.size, 0, none⟩ = some (.int .i64 m.A.n)) := kold hb (K16.out)
  have K28 : Hid (w4.cell? ⟨w.heap.size, 1, none⟩ = some (.int .i64 m.A.d)) := kold hb (K17.out)
  have K29 : Hid (w4.cell? ⟨w.heap.size, 2, none⟩ = some (.int .i64 m.B.n)) := kold hb (K18.out)
  have K30 : Hid (w4.cell? ⟨w.heap.size, 3, none⟩ = some (.int .i64 m.B.d)) := kold hb (K19.out)
  have K31 : Hid (w4.cell? ⟨w.heap.size, 4, none⟩ = some (.int .i64 m.C.n)) := kold hb (K20.out)
  have K32 : Hid (w4.cell? ⟨w.heap.size, 5, none⟩ = some (.int .i64 m.C.d)) := kold hb (K21.out)
  have K33 : Hid (w4.cell? ⟨w.heap.size, 6, none⟩ = some (.int .i64 m.D.n)) := kold hb (K22.out)
  have K34 : Hid (w4.cell? ⟨w.heap.size, 7, none⟩ = some (.int .i64 m.D.d)) := kold hb (K23.out)
  have K35 : Hid (w4.cell? ⟨w2.heap.size, 0, none⟩ = some (.int .i64 (apC m.A m.D m.B m.C))) := kold hb (K24.out)
  have K36 : Hid (w4.cell? ⟨w2.heap.size, 1, none⟩ = some (.int .i64 (sel (apC m.A m.D m.B m.C) (apQ m.A m.D m.B m.C)).n)) := kold hb (K25.out)
  have K37 : Hid (w4.cell? ⟨w2.heap.size, 2, none⟩ = some (.int .i64 (sel (apC m.A m.D m.B m.C) (apQ m.A m.D m.B m.C)).d)) := kold hb (K26.out)
  clear K16 K17 K18 K19 K20 K21 K22 K23 K24 K25 K26
  clear hb
  have c8 := K35.out
  have c9 := K36.out
  have c10 := K37.out
  have z0 : w.heap.size < w4.heap.size := World.block_lt_of_cell? _ _ K27.out
  have z1 : w2.heap.size < w4.heap.size := World.block_lt_of_cell? _ _ K35.out
  go_wp2_with fail
  refine (eqRes_same _ _ _ _).mono ?_
  rintro e w5 ⟨rfl, hb⟩
  clear c8 c9 c10 z0 z1
  have HO : Hid (Below w.heap.size w w5) := by have h := HO.out; have hs := h.size; refine box_step ?_ hb (by first | exact hs | (simp <;> omega)); go_grown
  have K38 : Hid (w5.cell? ⟨w.heap.size, 0, none⟩ = some (.int .i64 m.A.n)) := kold hb ((cell_old K27.out))
  have K39 : Hid (w5.cell? ⟨w.heap.size, 1, none⟩ = some (.int .i64 m.A.d)) := kold hb ((cell_old K28.out))
  have K40 : Hid (w5.cell? ⟨w.heap.size, 2, none⟩ = some (.int .i64 m.B.n)) := kold hb ((cell_old K29.out))
  have K41 : Hid (w5.cell? ⟨w.heap.size, 3, none⟩ = some (.int .i64 m.B.d)) := kold hb ((cell_old K30.out))
  have K42 : Hid (w5.cell? ⟨w.heap.size, 4, none⟩ = some (.int .i64 m.C.n)) := kold hb ((cell_old K31.out))
  have K43 : Hid (w5.cell? ⟨w.heap.size, 5, none⟩ = some (.int .i64 m.C.d)) := kold hb ((cell_old K32.out))
  have K44 : Hid (w5.cell? ⟨w.heap.size, 6, none⟩ = some (.int .i64 m.D.n)) := kold hb ((cell_old K33.out))
  have K45 : Hid (w5.cell? ⟨w.heap.size, 7, none⟩ = some (.int .i64 m.D.d)) := kold hb ((cell_old K34.out))
  have K46 : Hid (w5.cell? ⟨w2.heap.size, 0, none⟩ = some (.int .i64 (apC m.A m.D m.B m.C))) := kold hb ((cell_old K35.out))
  have K47 : Hid (w5.cell? ⟨w2.heap.size, 1, none⟩ = some (.int .i64 (sel (apC m.A m.D m.B m.C) (apQ m.A m.D m.B m.C)).n)) := kold hb ((cell_old K36.out))
  have K48 : Hid (w5.cell? ⟨w2.heap.size, 2, none⟩ = some (.int .i64 (sel (apC m.A m.D m.B m.C) (apQ m.A m.D m.B m.C)).d)) := kold hb ((cell_old K37.out))
  have K49 : Hid (w5.cell? ⟨w4.heap.size, 0, none⟩ = some (.int .i64 (apC m.A m.D m.B m.C))) := kold hb (cell_new (by simp) rfl)
  have K50 : Hid (w5.cell? ⟨w4.heap.size, 1, none⟩ = some (.int .i64 (sel (apC m.A m.D m.B m.C) (apQ m.A m.D m.B m.C)).n)) := kold hb (cell_new (by simp) rfl)
  have K51 : Hid (w5.cell? ⟨w4.heap.size, 2, none⟩ = some (.int .i64 (sel (apC m.A m.D m.B m.C) (apQ m.A m.D m.B m.C)).d)) := kold hb (cell_new (by simp) rfl)
  clear K27 K28 K29 K30 K31 K32 K33 K34 K35 K36 K37
  clear hb
  go_wp2
  go_ret
  refine ⟨by first | rfl | simp, ?_⟩
  have h := HO.out
  have hsz := h.size
  go_grown
set_option maxRecDepth 100000 in
theorem lifted (os : Os) (started : os.Started) (H : Type) (enc : TypeId × Value → H) :
    ReturnsInHanded {} Try.checked os 8 .any (Rows.fnExactDetMatrixSpec.pre6 enc Try.prog Try.f8 Rows.fnExactDetMatrixRow.domain false) (Rows.fnExactDetMatrixSpec.post enc Try.prog Try.f8 false true false false) := by
  refine returnsInHanded_of_change (C := Try.checked) own started (by kernel_rfl) Try.func8
    (ChangeSpec.witness6 (enc := enc) (C := Try.checked) false ⟨#[], #[.agg #[.int .i64 0, .int .i64 0, .int .i64 0, .int .i64 0, .int .i64 0, .int .i64 0, .int .i64 0, .int .i64 0]], []⟩ 8 (by kernel_rfl) (by kernel_rfl) (by kernel_rfl) (by kernel_rfl)) ?_
  intro W base args ds gs before hval0 hW hcnd _
  have hval : ∀ (j : Nat) t v, Try.f8.params[j]? = some t → args[j]? = some v → Value.okWide Try.prog W .any base t v := hval0
  have hW' := hW
  obtain ⟨p, q, hA0, hV, rfl, hfz, hnd⟩ := hW
  have hA : DataW.TrodAll enc Try.prog W 0 (fun _ => true) true Try.f8.params.toList args.toList ds p := hA0
  rw [Try.params8] at hA hval
  obtain ⟨v0, vs0, d0, ds0, p0, q0, hargs, rfl, rfl, h0, r0⟩ := trodAll_cons hA
  obtain ⟨rfl, rfl, rfl⟩ := trodAll_nil r0
  obtain rfl : args = #[v0] := by cases args; simp_all
  obtain ⟨rfl, rfl⟩ := trodVars_none hV
  have k0 := h0
  have lt0 : ∀ x ∈ p0, x.block < W.heap.size := by obtain ⟨m, hm⟩ := k0; exact DataW.trod_lt m _ _ _ hm
  obtain ⟨a0, rfl⟩ := open_mat (hval 0 53 v0 rfl rfl) h0
  clear hA0 hval0
  refine (walk a0 W).mono fun e W' ⟨he, bel⟩ => ?_
  subst he
  exact ⟨_, rfl, _, _, _, [], _, [], hW', trodAll_mk1 (shut_bool Try.underlying4 _), (trodAll_cons_mk (Below.trod laidOut (by kernel_rfl) (of_decide_eq_true (by kernel_rfl)) k0 bel lt0) trodAll_mk0), rfl, bel.frame _, fun h => by cases h⟩

theorem over : Rows.fnExactDetMatrixRow.holds Try.pinned (OpenSpec.ofChange Rows.fnExactDetMatrixSpec) :=
  OpenClaim.holds_of_wide 8 Try.f8 rfl rfl rfl rfl rfl rfl rfl ⟨rfl, rfl, rfl, rfl, rfl⟩ rfl rfl rfl rfl rfl (by kernel_rfl) Try.func8 (by kernel_rfl)
    (of_decide_eq_true (by kernel_rfl)) (by unfold Func.isWrapper; first | (rw [if_pos (by decide +kernel)]; kernel_rfl) | (rw [if_neg (by decide +kernel)]; exact ⟨rfl, rfl⟩))
    (fun os started H enc _ => lifted os started H enc)
end Go.Proofs.Ytnikgmjjkdhjbaa.LawDetMatrix
namespace Go.Proofs.Ytnikgmjjkdhjbaa
theorem detMatrix_holds : Rows.FnExactDetMatrixSaid := LawDetMatrix.over
#print axioms detMatrix_holds
end Go.Proofs.Ytnikgmjjkdhjbaa
