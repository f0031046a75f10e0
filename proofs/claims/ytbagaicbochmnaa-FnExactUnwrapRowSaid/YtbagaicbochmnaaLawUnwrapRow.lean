/- At every list of up to 2^20 numbers the program's UnwrapRow answers as the specification, leaves its argument as it was, answers in memory of its own and the same again; longer lists the law lets by. -/
import Derived.Test.YtbagaicbochmnaaArgrow
import Derived.Test.YtbagaicbochmnaaUr
import Derived.Test.YtbagaicbochmnaaEqs
import Derived.Handy
import Derived.Deep.RegionHeld3
import Derived.Deep.DeepCutAuto
namespace Go.Proofs.Ytbagaicbochmnaa.LawUnwrapRow
open Go.ChangeShapes Go.WideShapes Go.ChangeAt Go.RowKit Go.Joins
set_option linter.unusedVariables false

set_option maxHeartbeats 1600000 in
theorem walk {w : World} {v : Value} {n : Nat} {F : Nat → Int} (h : RdRow w v n F) (hn : n ≤ 9223372036854775807) :
    Calls Try.prog 8 #[v] w fun e w' => e = .returned (.bool true) ∧ Below w.heap.size w w' := by
  obtain ⟨ao, cap, hv⟩ := h.shape
  subst hv
  have H : Hid (RdRow w (.slice ao n cap) n F) := h
  clear h
  by_cases hbig : 1048576 < n
  · go_enter Try.func8, Try.ntmps8
    go_wp2
    go_ret
    exact ⟨rfl, Below.refl _ _⟩
  have hn1 : n ≤ 1100000 := by omega
  have hn2 : n ≤ 1000000000000 := by omega
  go_enter Try.func8, Try.ntmps8
  go_wp2_with fail
  refine (toS_any H.out hn2).mono ?_
  rintro e w1 ⟨rfl, hs1, hb1, _⟩
  have S1 : Hid (RdRow w1 (.slice (some ⟨w.heap.size, 0, none⟩) n n) n F) := hs1.rd
  have O1 : Hid (Below w.heap.size w w1) := hb1
  clear hs1 hb1
  go_wp2_with fail
  refine (sUnw_any S1.out hn1).mono ?_
  rintro e w2 ⟨u, rfl, hu, hb2⟩
  have U2 : Hid (OwnRow w1.heap.size w2.heap.size w2 u n (unw F)) := hu
  have O2 : Hid (Below w.heap.size w w2) := O1.out.trans (hb2.mono O1.out.size)
  clear hu hb2 S1
  go_wp2_with fail
  refine (toS_any (H.out.later O2.out) hn2).mono ?_
  rintro e w3 ⟨rfl, hs3, hb3, hz3⟩
  have S3 : Hid (Seg w3 w2.heap.size 2 0 n (fun i => .int .i64 (F i))) := hs3
  have U3 : Hid (OwnRow w1.heap.size w2.heap.size w3 u n (unw F)) := U2.out.keep (keep_below hb3 (Nat.le_refl _))
  have O3 : Hid (Below w.heap.size w w3) := O2.out.trans (hb3.mono O2.out.size)
  have z3 : w2.heap.size < w3.heap.size := by omega
  clear hs3 hb3 hz3 U2
  go_wp2_with fail
  refine (iUnw_any S3.out.rd hn1).mono ?_
  rintro e w4 ⟨g, rfl, hg, hb4⟩
  have G4 : Hid (OwnRow w3.heap.size w4.heap.size w4 g n (unw F)) := hg
  have S4 : Hid (Seg w4 w2.heap.size 2 0 n (fun i => .int .i64 (F i))) := S3.out.of_block (hb4.block _ z3)
  have U4 : Hid (OwnRow w1.heap.size w2.heap.size w4 u n (unw F)) := U3.out.keep (keep_below hb4 (by omega))
  have O4 : Hid (Below w.heap.size w w4) := O3.out.trans (hb4.mono O3.out.size)
  have z4 : w3.heap.size ≤ w4.heap.size := hb4.size
  clear hg hb4 S3 U3
  go_wp2_with fail
  refine (eqS_any G4.out.rd U4.out.rd hn2).mono ?_
  rintro e w5 ⟨rfl, q5, hq5⟩
  have hb5 : Below w4.heap.size w4 w5 := by rw [hq5]; exact below_drewN (Below.refl _ _) q5
  have z5 : w5.heap.size = w4.heap.size := by rw [hq5]; rfl
  clear hq5
  have G5 : Hid (OwnRow w3.heap.size w4.heap.size w5 g n (unw F)) := G4.out.keep (keep_below hb5 (Nat.le_refl _))
  have S5 : Hid (Seg w5 w2.heap.size 2 0 n (fun i => .int .i64 (F i))) := S4.out.of_block (hb5.block _ (by omega))
  have U5 : Hid (OwnRow w1.heap.size w2.heap.size w5 u n (unw F)) := U4.out.keep (keep_below hb5 (by omega))
  have O5 : Hid (Below w.heap.size w w5) := O4.out.trans (hb5.mono O4.out.size)
  have z5' : w4.heap.size ≤ w5.heap.size := by omega
  clear hb5 G4 S4 U4 z5
  go_wp2_with fail
  refine (toS_any (H.out.later O5.out) hn2).mono ?_
  rintro e w6 ⟨rfl, hs6, hb6, _⟩
  have C6 : Hid (RdRow w6 (.slice (some ⟨w5.heap.size, 0, none⟩) n n) n F) := hs6.rd
  have G6 : Hid (OwnRow w3.heap.size w4.heap.size w6 g n (unw F)) := G5.out.keep (keep_below hb6 (by omega))
  have S6 : Hid (Seg w6 w2.heap.size 2 0 n (fun i => .int .i64 (F i))) := S5.out.of_block (hb6.block _ (by omega))
  have U6 : Hid (OwnRow w1.heap.size w2.heap.size w6 u n (unw F)) := U5.out.keep (keep_below hb6 (by omega))
  have O6 : Hid (Below w.heap.size w w6) := O5.out.trans (hb6.mono O5.out.size)
  have z6 : w5.heap.size ≤ w6.heap.size := hb6.size
  clear hs6 hb6 G5 S5 U5
  go_wp2_with fail
  refine (eqS_any S6.out.rd C6.out hn2).mono ?_
  rintro e w7 ⟨rfl, q7, hq7⟩
  have hb7 : Below w6.heap.size w6 w7 := by rw [hq7]; exact below_drewN (Below.refl _ _) q7
  clear hq7
  have G7 : Hid (OwnRow w3.heap.size w4.heap.size w7 g n (unw F)) := G6.out.keep (keep_below hb7 (by omega))
  have S7 : Hid (Seg w7 w2.heap.size 2 0 n (fun i => .int .i64 (F i))) := S6.out.of_block (hb7.block _ (by omega))
  have U7 : Hid (OwnRow w1.heap.size w2.heap.size w7 u n (unw F)) := U6.out.keep (keep_below hb7 (by omega))
  have O7 : Hid (Below w.heap.size w w7) := O6.out.trans (hb7.mono O6.out.size)
  have z7 : w6.heap.size ≤ w7.heap.size := hb7.size
  clear hb7 G6 S6 U6 C6
  go_wp2_with fail
  refine (markS_some _ _ _ _ _ _ _ (by omega) (by omega) S7.out).mono ?_
  rintro e w8 ⟨rfl, _, hw8, hz8⟩
  have G8 : Hid (OwnRow w3.heap.size w4.heap.size w8 g n (unw F)) := G7.out.keep (keep_over hw8 (by omega) (by omega))
  have U8 : Hid (OwnRow w1.heap.size w2.heap.size w8 u n (unw F)) := U7.out.keep (keep_under hw8 (Nat.le_refl _))
  have O8 : Hid (Below w.heap.size w w8) := O7.out.trans (hw8.below.mono O2.out.size)
  have z8 : w7.heap.size ≤ w8.heap.size := by omega
  clear hw8 hz8 G7 S7 U7
  go_wp2_with fail
  refine (eqS_any G8.out.rd U8.out.rd hn2).mono ?_
  rintro e w9 ⟨rfl, q9, hq9⟩
  have hb9 : Below w8.heap.size w8 w9 := by rw [hq9]; exact below_drewN (Below.refl _ _) q9
  clear hq9
  have G9 : Hid (OwnRow w3.heap.size w4.heap.size w9 g n (unw F)) := G8.out.keep (keep_below hb9 (by omega))
  have U9 : Hid (OwnRow w1.heap.size w2.heap.size w9 u n (unw F)) := U8.out.keep (keep_below hb9 (by omega))
  have O9 : Hid (Below w.heap.size w w9) := O8.out.trans (hb9.mono O8.out.size)
  have z9 : w8.heap.size ≤ w9.heap.size := hb9.size
  clear hb9 G8 U8
  go_wp2_with fail
  refine (markRow_any G9.out hn1).mono ?_
  rintro e w10 ⟨r, rfl, hm, hw10, hz10, hr0⟩
  have M10 : Hid (MkdRow w3.heap.size w4.heap.size w10 g n r) := hm
  have U10 : Hid (OwnRow w1.heap.size w2.heap.size w10 u n (unw F)) := U9.out.keep (keep_under hw10 (by omega))
  have O10 : Hid (Below w.heap.size w w10) := O9.out.trans (hw10.below.mono O3.out.size)
  have z10 : w9.heap.size ≤ w10.heap.size := by omega
  clear hm hw10 hz10 G9 U9
  go_wp2_with fail
  refine (heldRow_any M10.out hn1).mono ?_
  rintro e w11 ⟨rfl, rfl⟩
  go_wp2_with fail
  refine (toS_any (H.out.later O10.out) hn2).mono ?_
  rintro e w11 ⟨rfl, hs11, hb11, _⟩
  have S11 : Hid (RdRow w11 (.slice (some ⟨w10.heap.size, 0, none⟩) n n) n F) := hs11.rd
  have M11 : Hid (MkdRow w3.heap.size w4.heap.size w11 g n r) := M10.out.keep (keep_below hb11 (by omega))
  have U11 : Hid (OwnRow w1.heap.size w2.heap.size w11 u n (unw F)) := U10.out.keep (keep_below hb11 (by omega))
  have O11 : Hid (Below w.heap.size w w11) := O10.out.trans (hb11.mono O10.out.size)
  have z11 : w10.heap.size ≤ w11.heap.size := hb11.size
  clear hs11 hb11 M10 U10
  go_wp2_with fail
  refine (iUnw_any S11.out hn1).mono ?_
  rintro e w12 ⟨g2, rfl, hg2, hb12⟩
  have K12 : Hid (OwnRow w11.heap.size w12.heap.size w12 g2 n (unw F)) := hg2
  have M12 : Hid (MkdRow w3.heap.size w4.heap.size w12 g n r) := M11.out.keep (keep_below hb12 (by omega))
  have U12 : Hid (OwnRow w1.heap.size w2.heap.size w12 u n (unw F)) := U11.out.keep (keep_below hb12 (by omega))
  have O12 : Hid (Below w.heap.size w w12) := O11.out.trans (hb12.mono O11.out.size)
  have z12 : w11.heap.size ≤ w12.heap.size := hb12.size
  clear hg2 hb12 M11 U11 S11
  go_wp2_with fail
  refine (eqS_any K12.out.rd U12.out.rd hn2).mono ?_
  rintro e w13 ⟨rfl, q13, hq13⟩
  have hb13 : Below w12.heap.size w12 w13 := by rw [hq13]; exact below_drewN (Below.refl _ _) q13
  clear hq13
  have M13 : Hid (MkdRow w3.heap.size w4.heap.size w13 g n r) := M12.out.keep (keep_below hb13 (by omega))
  have O13 : Hid (Below w.heap.size w w13) := O12.out.trans (hb13.mono O12.out.size)
  clear hb13 M12 U12 K12
  go_wp2_with fail
  refine (heldRow_any M13.out hn1).mono ?_
  rintro e w14 ⟨rfl, rfl⟩
  go_wp2
  go_ret
  exact ⟨rfl, O13.out⟩

set_option maxRecDepth 100000 in
theorem lifted (os : Os) (started : os.Started) (H : Type) (enc : TypeId × Value → H) :
    ReturnsInHanded {} Try.checked os 8 .any (Rows.fnExactUnwrapRowSpec.pre6 enc Try.prog Try.f8 Rows.fnExactUnwrapRowRow.domain false) (Rows.fnExactUnwrapRowSpec.post enc Try.prog Try.f8 false true false false) := by
  refine returnsInHanded_of_change (C := Try.checked) own started (by kernel_rfl) Try.func8
    (ChangeSpec.witness6 (enc := enc) (C := Try.checked) false ⟨#[], #[.slice none 0 0], []⟩ 8 (by kernel_rfl) (by kernel_rfl) (by kernel_rfl) (by kernel_rfl)) ?_
  intro W base args ds gs before hval0 hW hcnd _
  have hval : ∀ (j : Nat) t v, Try.f8.params[j]? = some t → args[j]? = some v → Value.okWide Try.prog W .any base t v := hval0
  have hW' := hW
  obtain ⟨p, q, hA0, hV, rfl, hfz, hnd⟩ := hW
  have hA : DataW.TrodAll enc Try.prog W 0 (fun _ => true) true Try.f8.params.toList args.toList ds p := hA0
  rw [Try.params8] at hA hval
  obtain ⟨v0, vs0, d0, ds0, p0, q0, hargs, rfl, rfl, h0, r0⟩ := trodAll_cons hA
  obtain ⟨rfl, rfl, rfl⟩ := trodAll_nil r0
  obtain rfl : args = #[v0] := by cases args; simp_all
  obtain ⟨rfl, rfl⟩ := trodVars_none hV
  have k0 := h0
  have lt0 : ∀ x ∈ p0, x.block < W.heap.size := by obtain ⟨m, hm⟩ := k0; exact DataW.trod_lt m _ _ _ hm
  obtain ⟨n0, F0, R0, nb0⟩ := open_row (hval 0 34 v0 rfl rfl) h0
  clear hA0 hval0
  refine (walk R0 nb0).mono fun e W' ⟨he, bel⟩ => ?_
  subst he
  exact ⟨_, rfl, _, _, _, [], _, [], hW', trodAll_mk1 (shut_bool Try.underlying4 _), (trodAll_cons_mk (Below.trod laidOut (by kernel_rfl) (of_decide_eq_true (by kernel_rfl)) k0 bel lt0) trodAll_mk0), rfl, bel.frame _, fun h => by cases h⟩

theorem over : Rows.fnExactUnwrapRowRow.holds Try.pinned (OpenSpec.ofChange Rows.fnExactUnwrapRowSpec) :=
  OpenClaim.holds_of_wide 8 Try.f8 rfl rfl rfl rfl rfl rfl rfl ⟨rfl, rfl, rfl, rfl, rfl⟩ rfl rfl rfl rfl rfl (by kernel_rfl) Try.func8 (by kernel_rfl)
    (of_decide_eq_true (by kernel_rfl)) (by unfold Func.isWrapper; first | (rw [if_pos (by decide +kernel)]; kernel_rfl) | (rw [if_neg (by decide +kernel)]; exact ⟨rfl, rfl⟩))
    (fun os started H enc _ => lifted os started H enc)
end Go.Proofs.Ytbagaicbochmnaa.LawUnwrapRow
namespace Go.Proofs.Ytbagaicbochmnaa
theorem unwrapRow_holds : Rows.FnExactUnwrapRowSaid := LawUnwrapRow.over
#print axioms unwrapRow_holds
end Go.Proofs.Ytbagaicbochmnaa
