/- At every argument the program's SameJoints answers as the specification, where the law's own bound on the sizes does not answer first; what it answers owns its memory; nothing that was there is changed. -/
import Derived.Test.YtclnmikneomccaaSj
import Derived.Test.YtclnmikneomccaaAw
import Derived.Test.YtclnmikneomccaaOf
import Derived.Test.YtclnmikneomccaaRw
import Derived.Handy
import Derived.Deep.RegionHeld3
import Derived.Deep.DeepCutAuto
namespace Go.Proofs.Ytclnmikneomccaa.LawSameJoints
open Go.ChangeShapes Go.WideShapes Go.ChangeAt Go.RowKit Go.Joins
set_option linter.unusedVariables false

set_option maxHeartbeats 4000000 in
set_option maxRecDepth 20000 in
theorem walk {w : World} {v0 : Value} {n0 : Nat} {P0 : Nat → Int} (h0 : RdRow w v0 n0 P0) (nb0 : n0 ≤ 9223372036854775807) (rb0 : ∀ i, i < n0 → W64 (P0 i)) {v1 : Value} {n1 : Nat} {P1 : Nat → Int} (h1 : RdRow w v1 n1 P1) (nb1 : n1 ≤ 9223372036854775807) (rb1 : ∀ i, i < n1 → W64 (P1 i)) :
    Calls Try.prog 11 #[v0, v1] w fun e w' => e = .returned (.bool true) ∧ Below w.heap.size w w' := by
  have RB0 : Hid (∀ i, i < n0 → W64 (P0 i)) := rb0
  clear rb0
  obtain ⟨va0, vc0, ev0⟩ : ∃ ao cap, v0 = .slice ao n0 cap := h0.shape
  subst ev0
  have H0 : Hid (RdRow w (.slice va0 n0 vc0) n0 P0) := h0
  clear h0
  have RB1 : Hid (∀ i, i < n1 → W64 (P1 i)) := rb1
  clear rb1
  obtain ⟨va1, vc1, ev1⟩ : ∃ ao cap, v1 = .slice ao n1 cap := h1.shape
  subst ev1
  have H1 : Hid (RdRow w (.slice va1 n1 vc1) n1 P1) := h1
  clear h1
  have D_w : Hid (Below w.heap.size w w) := Below.refl _ _
  have zw : w.heap.size ≤ w.heap.size := Nat.le_refl _
  by_cases hlong0 : (1048576 : Int) < n0
  · go_enter Try.func11, Try.ntmps11
    go_wp2
    go_ret
    exact ⟨rfl, (Below.refl _ _)⟩
  have hm0 : (n0 : Int) ≤ 1048576 := by omega
  by_cases hlong1 : (1048576 : Int) < n1
  · go_enter Try.func11, Try.ntmps11
    go_wp2
    go_ret
    exact ⟨rfl, (Below.refl _ _)⟩
  have hm1 : (n1 : Int) ≤ 1048576 := by omega
  obtain ⟨t, hcc⟩ : ∃ t : Bool, (t = true ↔ Sj n0 n1 P0 P1) := by
    by_cases h : Sj n0 n1 P0 P1
    · exact ⟨true, by simp [h]⟩
    · exact ⟨false, by simp [h]⟩
  have HCC : Hid (t = true ↔ Sj n0 n1 P0 P1) := hcc
  clear hcc
  go_enter Try.func11, Try.ntmps11
  go_wp2_with fail
  go_wp2_with fail
  refine (toS_any (H0.out.later D_w.out) (by omega)).mono ?_
  rintro e w1 ⟨rfl, hmo, hbb, hzz⟩
  have zw1 : w.heap.size ≤ w1.heap.size := hbb.size
  replace D_w : Hid (Below w.heap.size w w1) := D_w.out.trans (hbb.mono (by omega))
  clear hbb
  have O_c0 : Hid (OwF w.heap.size w1.heap.size w1 w.heap.size n0 P0) := ⟨Nat.le_refl _, by omega, hmo⟩
  clear hmo hzz
  go_wp2_with fail
  refine (toS_any (H1.out.later D_w.out) (by omega)).mono ?_
  rintro e w2 ⟨rfl, hmo, hbb, hzz⟩
  have zw2 : w1.heap.size ≤ w2.heap.size := hbb.size
  replace O_c0 : Hid (OwF w.heap.size w1.heap.size w2 w.heap.size n0 P0) := O_c0.out.keep (keep_below hbb (by omega))
  replace D_w : Hid (Below w.heap.size w w2) := D_w.out.trans (hbb.mono (by omega))
  clear hbb
  have O_c1 : Hid (OwF w1.heap.size w2.heap.size w2 w1.heap.size n1 P1) := ⟨Nat.le_refl _, by omega, hmo⟩
  clear hmo hzz
  go_wp2_with fail
  refine (sSame_any O_c0.out.rd O_c1.out.rd (by omega) (by omega) t HCC.out).mono ?_
  rintro e w3 ⟨rfl, hbb⟩
  have zw3 : w2.heap.size ≤ w3.heap.size := hbb.size
  replace O_c0 : Hid (OwF w.heap.size w1.heap.size w3 w.heap.size n0 P0) := O_c0.out.keep (keep_below hbb (by omega))
  replace O_c1 : Hid (OwF w1.heap.size w2.heap.size w3 w1.heap.size n1 P1) := O_c1.out.keep (keep_below hbb (by omega))
  replace D_w : Hid (Below w.heap.size w w3) := D_w.out.trans (hbb.mono (by omega))
  clear hbb
  clear O_c0
  clear O_c1
  go_wp2_with fail
  refine (toS_any (H0.out.later D_w.out) (by omega)).mono ?_
  rintro e w4 ⟨rfl, hmo, hbb, hzz⟩
  have zw4 : w3.heap.size ≤ w4.heap.size := hbb.size
  replace D_w : Hid (Below w.heap.size w w4) := D_w.out.trans (hbb.mono (by omega))
  clear hbb
  have O_x0 : Hid (OwF w3.heap.size w4.heap.size w4 w3.heap.size n0 P0) := ⟨Nat.le_refl _, by omega, hmo⟩
  clear hmo hzz
  go_wp2_with fail
  refine (toS_any (H1.out.later D_w.out) (by omega)).mono ?_
  rintro e w5 ⟨rfl, hmo, hbb, hzz⟩
  have zw5 : w4.heap.size ≤ w5.heap.size := hbb.size
  replace O_x0 : Hid (OwF w3.heap.size w4.heap.size w5 w3.heap.size n0 P0) := O_x0.out.keep (keep_below hbb (by omega))
  replace D_w : Hid (Below w.heap.size w w5) := D_w.out.trans (hbb.mono (by omega))
  clear hbb
  have O_x1 : Hid (OwF w4.heap.size w5.heap.size w5 w4.heap.size n1 P1) := ⟨Nat.le_refl _, by omega, hmo⟩
  clear hmo hzz
  go_wp2_with fail
  refine (iSame_any O_x0.out.rd O_x1.out.rd RB0.out RB1.out (by omega) (by omega) t HCC.out).mono ?_
  rintro e w6 ⟨rfl, hbb⟩
  have zw6 : w5.heap.size ≤ w6.heap.size := hbb.size
  replace O_x0 : Hid (OwF w3.heap.size w4.heap.size w6 w3.heap.size n0 P0) := O_x0.out.keep (keep_below hbb (by omega))
  replace O_x1 : Hid (OwF w4.heap.size w5.heap.size w6 w4.heap.size n1 P1) := O_x1.out.keep (keep_below hbb (by omega))
  replace D_w : Hid (Below w.heap.size w w6) := D_w.out.trans (hbb.mono (by omega))
  clear hbb
  go_wp2_with fail
  refine (toS_any (H0.out.later D_w.out) (by omega)).mono ?_
  rintro e w7 ⟨rfl, hmo, hbb, hzz⟩
  have zw7 : w6.heap.size ≤ w7.heap.size := hbb.size
  replace O_x0 : Hid (OwF w3.heap.size w4.heap.size w7 w3.heap.size n0 P0) := O_x0.out.keep (keep_below hbb (by omega))
  replace O_x1 : Hid (OwF w4.heap.size w5.heap.size w7 w4.heap.size n1 P1) := O_x1.out.keep (keep_below hbb (by omega))
  replace D_w : Hid (Below w.heap.size w w7) := D_w.out.trans (hbb.mono (by omega))
  clear hbb
  have O_q : Hid (OwF w6.heap.size w7.heap.size w7 w6.heap.size n0 P0) := ⟨Nat.le_refl _, by omega, hmo⟩
  clear hmo hzz
  go_wp2_with fail
  refine (eqS_any O_x0.out.rd O_q.out.rd (by omega)).mono ?_
  rintro e w8 ⟨rfl, q, hqq⟩
  have hbb : Below w7.heap.size w7 w8 := by rw [hqq]; exact below_drewN (Below.refl _ _) q
  clear hqq
  clear O_q
  have zw8 : w7.heap.size ≤ w8.heap.size := hbb.size
  replace O_x0 : Hid (OwF w3.heap.size w4.heap.size w8 w3.heap.size n0 P0) := O_x0.out.keep (keep_below hbb (by omega))
  replace O_x1 : Hid (OwF w4.heap.size w5.heap.size w8 w4.heap.size n1 P1) := O_x1.out.keep (keep_below hbb (by omega))
  replace D_w : Hid (Below w.heap.size w w8) := D_w.out.trans (hbb.mono (by omega))
  clear hbb
  go_wp2_with fail
  refine (toS_any (H1.out.later D_w.out) (by omega)).mono ?_
  rintro e w9 ⟨rfl, hmo, hbb, hzz⟩
  have zw9 : w8.heap.size ≤ w9.heap.size := hbb.size
  replace O_x0 : Hid (OwF w3.heap.size w4.heap.size w9 w3.heap.size n0 P0) := O_x0.out.keep (keep_below hbb (by omega))
  replace O_x1 : Hid (OwF w4.heap.size w5.heap.size w9 w4.heap.size n1 P1) := O_x1.out.keep (keep_below hbb (by omega))
  replace D_w : Hid (Below w.heap.size w w9) := D_w.out.trans (hbb.mono (by omega))
  clear hbb
  have O_q : Hid (OwF w8.heap.size w9.heap.size w9 w8.heap.size n1 P1) := ⟨Nat.le_refl _, by omega, hmo⟩
  clear hmo hzz
  go_wp2_with fail
  refine (eqS_any O_x1.out.rd O_q.out.rd (by omega)).mono ?_
  rintro e w10 ⟨rfl, q, hqq⟩
  have hbb : Below w9.heap.size w9 w10 := by rw [hqq]; exact below_drewN (Below.refl _ _) q
  clear hqq
  clear O_q
  have zw10 : w9.heap.size ≤ w10.heap.size := hbb.size
  replace O_x0 : Hid (OwF w3.heap.size w4.heap.size w10 w3.heap.size n0 P0) := O_x0.out.keep (keep_below hbb (by omega))
  replace O_x1 : Hid (OwF w4.heap.size w5.heap.size w10 w4.heap.size n1 P1) := O_x1.out.keep (keep_below hbb (by omega))
  replace D_w : Hid (Below w.heap.size w w10) := D_w.out.trans (hbb.mono (by omega))
  clear hbb
  go_wp2
  go_ret
  exact ⟨rfl, D_w.out⟩

set_option maxRecDepth 100000 in
theorem lifted (os : Os) (started : os.Started) (H : Type) (enc : TypeId × Value → H) :
    ReturnsInHanded {} Try.checked os 11 .any (Rows.fnExactSameJointsSpec.pre6 enc Try.prog Try.f11 Rows.fnExactSameJointsRow.domain false) (Rows.fnExactSameJointsSpec.post enc Try.prog Try.f11 false true false false) := by
  refine returnsInHanded_of_change (C := Try.checked) own started (by kernel_rfl) Try.func11
    (ChangeSpec.witness6 (enc := enc) (C := Try.checked) false ⟨#[], #[.slice none 0 0, .slice none 0 0], []⟩ 8 (by kernel_rfl) (by kernel_rfl) (by kernel_rfl) (by kernel_rfl)) ?_
  intro W base args ds gs before hval0 hW hcnd _
  have hval : ∀ (j : Nat) t v, Try.f11.params[j]? = some t → args[j]? = some v → Value.okWide Try.prog W .any base t v := hval0
  have hW' := hW
  obtain ⟨p, q, hA0, hV, rfl, hfz, hnd⟩ := hW
  have hA : DataW.TrodAll enc Try.prog W 0 (fun _ => true) true Try.f11.params.toList args.toList ds p := hA0
  rw [Try.params11] at hA hval
  obtain ⟨v0, vs0, d0, ds0, p0, q0, hargs, rfl, rfl, h0, r0⟩ := trodAll_cons hA
  obtain ⟨v1, vs1, d1, ds1, p1, q1, rfl, rfl, rfl, h1, r1⟩ := trodAll_cons r0
  obtain ⟨rfl, rfl, rfl⟩ := trodAll_nil r1
  obtain rfl : args = #[v0, v1] := by cases args; simp_all
  obtain ⟨rfl, rfl⟩ := trodVars_none hV
  have k0 := h0
  have lt0 : ∀ x ∈ p0, x.block < W.heap.size := by obtain ⟨m, hm⟩ := k0; exact DataW.trod_lt m _ _ _ hm
  obtain ⟨n0, F0, R0, nb0, rb0⟩ := open_roww (hval 0 29 v0 rfl rfl) h0
  have k1 := h1
  have lt1 : ∀ x ∈ p1, x.block < W.heap.size := by obtain ⟨m, hm⟩ := k1; exact DataW.trod_lt m _ _ _ hm
  obtain ⟨n1, F1, R1, nb1, rb1⟩ := open_roww (hval 1 29 v1 rfl rfl) h1
  clear hA0 hval0
  refine (walk R0 nb0 rb0 R1 nb1 rb1).mono fun e W' ⟨he, bel⟩ => ?_
  subst he
  exact ⟨_, rfl, _, _, _, [], _, [], hW', trodAll_mk1 (shut_bool Try.underlying4 _), (trodAll_cons_mk (Below.trod laidOut (by kernel_rfl) (of_decide_eq_true (by kernel_rfl)) k0 bel lt0) (trodAll_cons_mk (Below.trod laidOut (by kernel_rfl) (of_decide_eq_true (by kernel_rfl)) k1 bel lt1) trodAll_mk0)), rfl, bel.frame _, fun h => by cases h⟩

theorem over : Rows.fnExactSameJointsRow.holds Try.pinned (OpenSpec.ofChange Rows.fnExactSameJointsSpec) :=
  OpenClaim.holds_of_wide 11 Try.f11 rfl rfl rfl rfl rfl rfl rfl ⟨rfl, rfl, rfl, rfl, rfl⟩ rfl rfl rfl rfl rfl (by kernel_rfl) Try.func11 (by kernel_rfl)
    (of_decide_eq_true (by kernel_rfl)) (by unfold Func.isWrapper; first | (rw [if_pos (by decide +kernel)]; kernel_rfl) | (rw [if_neg (by decide +kernel)]; exact ⟨rfl, rfl⟩))
    (fun os started H enc _ => lifted os started H enc)
end Go.Proofs.Ytclnmikneomccaa.LawSameJoints
namespace Go.Proofs.Ytclnmikneomccaa
theorem sameJoints_holds : Rows.FnExactSameJointsSaid := LawSameJoints.over
#print axioms sameJoints_holds
end Go.Proofs.Ytclnmikneomccaa
