/- At every list of up to 2^20 numbers the program's VisibilityOf answers as the specification, code and fraction, and leaves its argument as it was; longer lists the law lets by. -/
import Derived.Test.YtbagaicbochmnaaArgrow
import Derived.Test.YtbagaicbochmnaaVi
import Derived.Test.YtbagaicbochmnaaEqs
import Derived.Handy
import Derived.Deep.RegionHeld3
import Derived.Deep.DeepCutAuto
namespace Go.Proofs.Ytbagaicbochmnaa.LawVisibilityOf
open Go.ChangeShapes Go.WideShapes Go.ChangeAt Go.RowKit Go.Joins
set_option linter.unusedVariables false

theorem V3b.c {w : World} {b : Nat} {x y z : Value} (h : w.heap[b]? = some (.cells #[x, y, z] 63 (0, 0))) : w.cell? ⟨b, 0, none⟩ = some x ∧ w.cell? ⟨b, 1, none⟩ = some y ∧ w.cell? ⟨b, 2, none⟩ = some z := by
  simp [World.cell?, h]
set_option maxHeartbeats 1600000 in
theorem walk {w : World} {v : Value} {n : Nat} {F : Nat → Int} (h : RdRow w v n F) (hn : n ≤ 9223372036854775807) :
    Calls Try.prog 15 #[v] w fun e w' => e = .returned (.bool true) ∧ Below w.heap.size w w' := by
  obtain ⟨ao, cap, hv⟩ := h.shape
  subst hv
  have H : Hid (RdRow w (.slice ao n cap) n F) := h
  clear h
  by_cases hbig : 1048576 < n
  · go_enter Try.func15, Try.ntmps15
    go_wp2
    go_ret
    exact ⟨rfl, Below.refl _ _⟩
  have hn1 : n ≤ 1100000 := by omega
  have hn2 : n ≤ 1000000000000 := by omega
  go_enter Try.func15, Try.ntmps15
  go_wp2_with fail
  refine (toS_any H.out hn2).mono ?_
  rintro e w1 ⟨rfl, hs1, hb1, _⟩
  have S1 : Hid (RdRow w1 (.slice (some ⟨w.heap.size, 0, none⟩) n n) n F) := hs1.rd
  have O1 : Hid (Below w.heap.size w w1) := hb1
  clear hs1 hb1
  go_wp2_with fail
  refine (sVis_any S1.out hn1).mono ?_
  rintro e w2 ⟨rfl, hb2⟩
  have O2 : Hid (Below w.heap.size w w2) := O1.out.trans (hb2.mono O1.out.size)
  clear hb2 S1
  obtain ⟨w3, hw3⟩ : ∃ W, W = w2.alloc (.cells #[.int .i64 (visC F n), .int .i64 (visN F n), .int .i64 (visD F n)] 63) := ⟨_, rfl⟩
  have O3 : Hid (Below w.heap.size w w3) := by show Below _ _ w3; rw [hw3]; exact O2.out.alloc O2.out.size _
  have V3' : Hid (w3.heap[w2.heap.size]? = some (.cells #[.int .i64 (visC F n), .int .i64 (visN F n), .int .i64 (visD F n)] 63 (0, 0))) := by show w3.heap[w2.heap.size]? = _; rw [hw3]; exact heap_alloc_new _ _
  have z3 : w2.heap.size < w3.heap.size := (Array.getElem?_eq_some_iff.1 V3'.out).1
  go_upto_region 4 with fail
  rw [← hw3]
  clear hw3
  go_wp2_with fail
  refine (toS_any (H.out.later O3.out) hn2).mono ?_
  rintro e w4 ⟨rfl, hs4, hb4, _⟩
  have S4 : Hid (RdRow w4 (.slice (some ⟨w3.heap.size, 0, none⟩) n n) n F) := hs4.rd
  have B4 : Hid (Below w3.heap.size w3 w4) := hb4
  clear hs4 hb4
  go_wp2_with fail
  refine (iVis_any S4.out hn1).mono ?_
  rintro e w5 ⟨rfl, hb5⟩
  have S5 : Hid (RdRow w5 (.slice (some ⟨w3.heap.size, 0, none⟩) n n) n F) := S4.out.later hb5
  have B5 : Hid (Below w3.heap.size w3 w5) := B4.out.trans (hb5.mono B4.out.size)
  clear hb5 S4 B4
  obtain ⟨w6, hw6⟩ : ∃ W, W = w5.alloc (.cells #[.int .i64 (visC F n), .int .i64 (visN F n), .int .i64 (visD F n)] 63) := ⟨_, rfl⟩
  have b56 : Below w5.heap.size w5 w6 := by rw [hw6]; exact (Below.refl _ _).alloc (Nat.le_refl _) _
  have S6 : Hid (RdRow w6 (.slice (some ⟨w3.heap.size, 0, none⟩) n n) n F) := S5.out.later b56
  have B6 : Hid (Below w3.heap.size w3 w6) := B5.out.trans (b56.mono B5.out.size)
  have V6 : w6.heap[w5.heap.size]? = some (.cells #[.int .i64 (visC F n), .int .i64 (visN F n), .int .i64 (visD F n)] 63 (0, 0)) := by rw [hw6]; exact heap_alloc_new _ _
  obtain ⟨p0, p1, p2⟩ := V3b.c ((B6.out.block _ z3).trans V3'.out)
  obtain ⟨q0, q1, q2⟩ := V3b.c V6
  generalize visC F n = vc at *
  generalize visN F n = vn at *
  generalize visD F n = vd at *
  clear V6 b56
  go_upto_region 6 with fail
  rw [← hw6]
  clear hw6
  go_wp2_with fail
  refine (eqVis_same vc vn vd _).mono ?_
  rintro e w7 ⟨rfl, hb7⟩
  have S7 : Hid (RdRow w7 (.slice (some ⟨w3.heap.size, 0, none⟩) n n) n F) := S6.out.later hb7
  have O7 : Hid (Below w.heap.size w w7) := O3.out.trans ((B6.out.trans (hb7.mono B6.out.size)).mono O3.out.size)
  clear hb7 p0 p1 p2 q0 q1 q2
  go_wp2_with fail
  refine (toS_any (H.out.later O7.out) hn2).mono ?_
  rintro e w8 ⟨rfl, hs8, hb8, _⟩
  have C8 : Hid (RdRow w8 (.slice (some ⟨w7.heap.size, 0, none⟩) n n) n F) := hs8.rd
  have S8 : Hid (RdRow w8 (.slice (some ⟨w3.heap.size, 0, none⟩) n n) n F) := S7.out.later hb8
  have O8 : Hid (Below w.heap.size w w8) := O7.out.trans (hb8.mono O7.out.size)
  clear hs8 hb8
  go_wp2_with fail
  refine (eqS_any S8.out C8.out hn2).mono ?_
  rintro e w9 ⟨rfl, q9, hq9⟩
  have O9 : Hid (Below w.heap.size w w9) := by show Below _ _ w9; rw [hq9]; exact below_drewN O8.out q9
  clear hq9
  go_wp2
  go_ret
  exact ⟨rfl, O9.out⟩

set_option maxRecDepth 100000 in
theorem lifted (os : Os) (started : os.Started) (H : Type) (enc : TypeId × Value → H) :
    ReturnsInHanded {} Try.checked os 15 .any (Rows.fnExactVisibilityOfSpec.pre6 enc Try.prog Try.f15 Rows.fnExactVisibilityOfRow.domain false) (Rows.fnExactVisibilityOfSpec.post enc Try.prog Try.f15 false true false false) := by
  refine returnsInHanded_of_change (C := Try.checked) own started (by kernel_rfl) Try.func15
    (ChangeSpec.witness6 (enc := enc) (C := Try.checked) false ⟨#[], #[.slice none 0 0], []⟩ 8 (by kernel_rfl) (by kernel_rfl) (by kernel_rfl) (by kernel_rfl)) ?_
  intro W base args ds gs before hval0 hW hcnd _
  have hval : ∀ (j : Nat) t v, Try.f15.params[j]? = some t → args[j]? = some v → Value.okWide Try.prog W .any base t v := hval0
  have hW' := hW
  obtain ⟨p, q, hA0, hV, rfl, hfz, hnd⟩ := hW
  have hA : DataW.TrodAll enc Try.prog W 0 (fun _ => true) true Try.f15.params.toList args.toList ds p := hA0
  rw [Try.params15] at hA hval
  obtain ⟨v0, vs0, d0, ds0, p0, q0, hargs, rfl, rfl, h0, r0⟩ := trodAll_cons hA
  obtain ⟨rfl, rfl, rfl⟩ := trodAll_nil r0
  obtain rfl : args = #[v0] := by cases args; simp_all
  obtain ⟨rfl, rfl⟩ := trodVars_none hV
  have k0 := h0
  have lt0 : ∀ x ∈ p0, x.block < W.heap.size := by obtain ⟨m, hm⟩ := k0; exact DataW.trod_lt m _ _ _ hm
  obtain ⟨n0, F0, R0, nb0⟩ := open_row (hval 0 34 v0 rfl rfl) h0
  clear hA0 hval0
  refine (walk R0 nb0).mono fun e W' ⟨he, bel⟩ => ?_
  subst he
  exact ⟨_, rfl, _, _, _, [], _, [], hW', trodAll_mk1 (shut_bool Try.underlying4 _), (trodAll_cons_mk (Below.trod laidOut (by kernel_rfl) (of_decide_eq_true (by kernel_rfl)) k0 bel lt0) trodAll_mk0), rfl, bel.frame _, fun h => by cases h⟩

theorem over : Rows.fnExactVisibilityOfRow.holds Try.pinned (OpenSpec.ofChange Rows.fnExactVisibilityOfSpec) :=
  OpenClaim.holds_of_wide 15 Try.f15 rfl rfl rfl rfl rfl rfl rfl ⟨rfl, rfl, rfl, rfl, rfl⟩ rfl rfl rfl rfl rfl (by kernel_rfl) Try.func15 (by kernel_rfl)
    (of_decide_eq_true (by kernel_rfl)) (by unfold Func.isWrapper; first | (rw [if_pos (by decide +kernel)]; kernel_rfl) | (rw [if_neg (by decide +kernel)]; exact ⟨rfl, rfl⟩))
    (fun os started H enc _ => lifted os started H enc)
end Go.Proofs.Ytbagaicbochmnaa.LawVisibilityOf
namespace Go.Proofs.Ytbagaicbochmnaa
theorem visibilityOf_holds : Rows.FnExactVisibilityOfSaid := LawVisibilityOf.over
#print axioms visibilityOf_holds
end Go.Proofs.Ytbagaicbochmnaa
