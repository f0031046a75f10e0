/- At every argument the program's MarginOf answers as the specification, where the law's own bound on the sizes does not answer first; what it answers owns its memory; nothing that was there is changed. -/
import Derived.Test.YtelejihgechmgaaMj
import Derived.Test.YtelejihgechmgaaSo
import Derived.Test.YtelejihgechmgaaRw
import Derived.Test.YtelejihgechmgaaLv
import Derived.Handy
import Derived.Deep.RegionHeld3
import Derived.Deep.DeepCutAuto
namespace Go.Proofs.Ytelejihgechmgaa.LawMarginOf
open Go.ChangeShapes Go.WideShapes Go.ChangeAt Go.RowKit Go.Joins
set_option linter.unusedVariables false

set_option maxHeartbeats 4000000 in
set_option maxRecDepth 20000 in
theorem walk {w : World} {v0 : Value} {n0 : Nat} {F0 : Nat → Mt.Sp} (h0 : Rsp w v0 n0 F0) (nb0 : n0 ≤ 9223372036854775807) (n1 : Int) (na1 : -9223372036854775808 ≤ n1) (nz1 : n1 ≤ 9223372036854775807) (n2 : Int) (na2 : -9223372036854775808 ≤ n2) (nz2 : n2 ≤ 9223372036854775807) :
    Calls Try.prog 4 #[v0, .int .i64 n1, .int .i64 n2] w fun e w' => e = .returned (.bool true) ∧ Below w.heap.size w w' := by
  obtain ⟨va0, vc0, ev0⟩ : ∃ ao cap, v0 = .slice ao n0 cap := h0.form
  subst ev0
  have H0 : Hid (Rsp w (.slice va0 n0 vc0) n0 F0) := h0
  clear h0
  have D_w : Hid (Below w.heap.size w w) := Below.refl _ _
  have zw : w.heap.size ≤ w.heap.size := Nat.le_refl _
  obtain ⟨q, m, hcc⟩ : ∃ q m, q = Mt.mcode F0 n0 n1 n2 ∧ m = Mt.margin F0 n0 n1 n2 := ⟨_, _, rfl, rfl⟩
  have HCC : Hid (q = Mt.mcode F0 n0 n1 n2 ∧ m = Mt.margin F0 n0 n1 n2) := hcc
  clear hcc
  go_enter Try.func4, Try.ntmps4
  go_wp2_with fail
  refine (szSp_any _ _ _ 1048576 _ (by omega) (by omega) nb0).mono ?_
  rintro e wq0 ⟨rfl, ewq⟩
  obtain rfl := ewq
  obtain ⟨left0, hleft0⟩ : ∃ l, l = (if 1048576 - (n0 : Int) < 0 then -1 else 1048576 - (n0 : Int)) := ⟨_, rfl⟩
  rw [← hleft0]
  by_cases hr0 : left0 < 0
  · clear hleft0
    go_wp2
    go_ret
    exact ⟨rfl, D_w.out⟩
  have hs0 : left0 = 1048576 - (n0 : Int) := by split at hleft0 <;> omega
  have hm0 : (n0 : Int) ≤ 1048576 := by omega
  clear hleft0
  go_wp2_with fail
  refine (toSpans_any (H0.out.later D_w.out) (by omega)).mono ?_
  rintro e w1 ⟨rfl, hmo, hbb⟩
  have zw1 : w.heap.size ≤ w1.heap.size := hbb.size
  replace D_w : Hid (Below w.heap.size w w1) := D_w.out.trans (hbb.mono (by omega))
  clear hbb
  have O_c0 : Hid (OwS w.heap.size w1.heap.size w1 w.heap.size n0 F0) := hmo
  clear hmo
  go_wp2_with fail
  refine (sMargin_any HCC.out.1 HCC.out.2 O_c0.out.rd (by omega)).mono ?_
  rintro e w2 ⟨rfl, hbb⟩
  have zw2 : w1.heap.size ≤ w2.heap.size := hbb.size
  replace O_c0 : Hid (OwS w.heap.size w1.heap.size w2 w.heap.size n0 F0) := O_c0.out.keep (keep_below hbb (by omega))
  replace D_w : Hid (Below w.heap.size w w2) := D_w.out.trans (hbb.mono (by omega))
  clear hbb
  clear O_c0
  go_wp2_with fail
  obtain ⟨w3, hwd⟩ : ∃ W, W = w2.alloc (.cells #[.int .i64 q, .int .i64 m] 36) := ⟨_, rfl⟩
  have NB : Hid (Blk w3 w2.heap.size #[.int .i64 q, .int .i64 m] 36) := by rw [hwd]; exact Blk.new rfl
  have hbb : Below w2.heap.size w2 w3 := by rw [hwd]; exact (Below.refl _ _).alloc (Nat.le_refl _) _
  have yw3 : w2.heap.size + 1 ≤ w3.heap.size := by rw [hwd]; simp
  have HWD : Hid (w3 = w2.alloc (.cells #[.int .i64 q, .int .i64 m] 36)) := hwd
  rw [← hwd]
  clear hwd
  have zw3 : w2.heap.size ≤ w3.heap.size := hbb.size
  replace D_w : Hid (Below w.heap.size w w3) := D_w.out.trans (hbb.mono (by omega))
  clear hbb
  have B_S := NB
  clear NB
  clear HWD
  refine (toSpans_any (H0.out.later D_w.out) (by omega)).mono ?_
  rintro e w4 ⟨rfl, hmo, hbb⟩
  have zw4 : w3.heap.size ≤ w4.heap.size := hbb.size
  replace B_S : Hid (Blk w4 w2.heap.size #[.int .i64 q, .int .i64 m] 36) := B_S.out.old hbb
  replace D_w : Hid (Below w.heap.size w w4) := D_w.out.trans (hbb.mono (by omega))
  clear hbb
  have O_x0 : Hid (OwS w3.heap.size w4.heap.size w4 w3.heap.size n0 F0) := hmo
  clear hmo
  go_wp2_with fail
  refine (iMargin_any HCC.out.1 HCC.out.2 O_x0.out.rd (by omega)).mono ?_
  rintro e w5 ⟨rfl, hbb⟩
  have zw5 : w4.heap.size ≤ w5.heap.size := hbb.size
  replace B_S : Hid (Blk w5 w2.heap.size #[.int .i64 q, .int .i64 m] 36) := B_S.out.old hbb
  replace O_x0 : Hid (OwS w3.heap.size w4.heap.size w5 w3.heap.size n0 F0) := O_x0.out.keep (keep_below hbb (by omega))
  replace D_w : Hid (Below w.heap.size w w5) := D_w.out.trans (hbb.mono (by omega))
  clear hbb
  have c_S_0 := B_S.out.cell (j := 0) rfl
  have c_S_1 := B_S.out.cell (j := 1) rfl
  have l_S := B_S.out.lt
  go_wp2_with fail
  obtain ⟨w6, hwd⟩ : ∃ W, W = w5.alloc (.cells #[.int .i64 q, .int .i64 m] 36) := ⟨_, rfl⟩
  have NB : Hid (Blk w6 w5.heap.size #[.int .i64 q, .int .i64 m] 36) := by rw [hwd]; exact Blk.new rfl
  have hbb : Below w5.heap.size w5 w6 := by rw [hwd]; exact (Below.refl _ _).alloc (Nat.le_refl _) _
  have yw6 : w5.heap.size + 1 ≤ w6.heap.size := by rw [hwd]; simp
  rw [← hwd]
  clear hwd
  clear c_S_0 c_S_1 l_S
  have zw6 : w5.heap.size ≤ w6.heap.size := hbb.size
  replace B_S : Hid (Blk w6 w2.heap.size #[.int .i64 q, .int .i64 m] 36) := B_S.out.old hbb
  replace O_x0 : Hid (OwS w3.heap.size w4.heap.size w6 w3.heap.size n0 F0) := O_x0.out.keep (keep_below hbb (by omega))
  replace D_w : Hid (Below w.heap.size w w6) := D_w.out.trans (hbb.mono (by omega))
  clear hbb
  have B_G := NB
  clear NB
  refine (eqMerit_same q m _).mono ?_
  rintro e w7 ⟨rfl, hbb⟩
  have zw7 : w6.heap.size ≤ w7.heap.size := hbb.size
  replace B_S : Hid (Blk w7 w2.heap.size #[.int .i64 q, .int .i64 m] 36) := B_S.out.old hbb
  replace B_G : Hid (Blk w7 w5.heap.size #[.int .i64 q, .int .i64 m] 36) := B_G.out.old hbb
  replace O_x0 : Hid (OwS w3.heap.size w4.heap.size w7 w3.heap.size n0 F0) := O_x0.out.keep (keep_below hbb (by omega))
  replace D_w : Hid (Below w.heap.size w w7) := D_w.out.trans (hbb.mono (by omega))
  clear hbb
  go_wp2_with fail
  refine (toSpans_any (H0.out.later D_w.out) (by omega)).mono ?_
  rintro e w8 ⟨rfl, hmo, hbb⟩
  have zw8 : w7.heap.size ≤ w8.heap.size := hbb.size
  replace B_S : Hid (Blk w8 w2.heap.size #[.int .i64 q, .int .i64 m] 36) := B_S.out.old hbb
  replace B_G : Hid (Blk w8 w5.heap.size #[.int .i64 q, .int .i64 m] 36) := B_G.out.old hbb
  replace O_x0 : Hid (OwS w3.heap.size w4.heap.size w8 w3.heap.size n0 F0) := O_x0.out.keep (keep_below hbb (by omega))
  replace D_w : Hid (Below w.heap.size w w8) := D_w.out.trans (hbb.mono (by omega))
  clear hbb
  have O_q : Hid (OwS w7.heap.size w8.heap.size w8 w7.heap.size n0 F0) := hmo
  clear hmo
  go_wp2_with fail
  refine (eqSpans_any O_x0.out O_q.out (by omega)).mono ?_
  rintro e w9 ⟨rfl, hbb⟩
  clear O_q
  have zw9 : w8.heap.size ≤ w9.heap.size := hbb.size
  replace B_S : Hid (Blk w9 w2.heap.size #[.int .i64 q, .int .i64 m] 36) := B_S.out.old hbb
  replace B_G : Hid (Blk w9 w5.heap.size #[.int .i64 q, .int .i64 m] 36) := B_G.out.old hbb
  replace O_x0 : Hid (OwS w3.heap.size w4.heap.size w9 w3.heap.size n0 F0) := O_x0.out.keep (keep_below hbb (by omega))
  replace D_w : Hid (Below w.heap.size w w9) := D_w.out.trans (hbb.mono (by omega))
  clear hbb
  go_wp2
  go_ret
  exact ⟨rfl, D_w.out⟩

set_option maxRecDepth 100000 in
theorem lifted (os : Os) (started : os.Started) (H : Type) (enc : TypeId × Value → H) :
    ReturnsInHanded {} Try.checked os 4 .any (Rows.fnExactMarginOfSpec.pre6 enc Try.prog Try.f4 Rows.fnExactMarginOfRow.domain false) (Rows.fnExactMarginOfSpec.post enc Try.prog Try.f4 false true false false) := by
  refine returnsInHanded_of_change (C := Try.checked) own started (by kernel_rfl) Try.func4
    (ChangeSpec.witness6 (enc := enc) (C := Try.checked) false ⟨#[], #[.slice none 0 0, .int .i64 0, .int .i64 0], []⟩ 8 (by kernel_rfl) (by kernel_rfl) (by kernel_rfl) (by kernel_rfl)) ?_
  intro W base args ds gs before hval0 hW hcnd _
  have hval : ∀ (j : Nat) t v, Try.f4.params[j]? = some t → args[j]? = some v → Value.okWide Try.prog W .any base t v := hval0
  have hW' := hW
  obtain ⟨p, q, hA0, hV, rfl, hfz, hnd⟩ := hW
  have hA : DataW.TrodAll enc Try.prog W 0 (fun _ => true) true Try.f4.params.toList args.toList ds p := hA0
  rw [Try.params4] at hA hval
  obtain ⟨v0, vs0, d0, ds0, p0, q0, hargs, rfl, rfl, h0, r0⟩ := trodAll_cons hA
  obtain ⟨v1, vs1, d1, ds1, p1, q1, rfl, rfl, rfl, h1, r1⟩ := trodAll_cons r0
  obtain ⟨v2, vs2, d2, ds2, p2, q2, rfl, rfl, rfl, h2, r2⟩ := trodAll_cons r1
  obtain ⟨rfl, rfl, rfl⟩ := trodAll_nil r2
  obtain rfl : args = #[v0, v1, v2] := by cases args; simp_all
  obtain ⟨rfl, rfl⟩ := trodVars_none hV
  have k0 := h0
  have lt0 : ∀ x ∈ p0, x.block < W.heap.size := by obtain ⟨m, hm⟩ := k0; exact DataW.trod_lt m _ _ _ hm
  obtain ⟨n0, F0, R0, nb0⟩ := open_spans (hval 0 22 v0 rfl rfl) h0
  have k1 := h1
  have lt1 : ∀ x ∈ p1, x.block < W.heap.size := by obtain ⟨m, hm⟩ := k1; exact DataW.trod_lt m _ _ _ hm
  obtain ⟨n1, rfl, _, _, w1⟩ := open_int Try.underlying2 (hval 1 2 v1 rfl rfl) h1
  have k2 := h2
  have lt2 : ∀ x ∈ p2, x.block < W.heap.size := by obtain ⟨m, hm⟩ := k2; exact DataW.trod_lt m _ _ _ hm
  obtain ⟨n2, rfl, _, _, w2⟩ := open_int Try.underlying2 (hval 2 2 v2 rfl rfl) h2
  clear hA0 hval0
  refine (walk R0 nb0 n1 (i64_lo w1) (i64_hi w1) n2 (i64_lo w2) (i64_hi w2)).mono fun e W' ⟨he, bel⟩ => ?_
  subst he
  exact ⟨_, rfl, _, _, _, [], _, [], hW', trodAll_mk1 (shut_bool Try.underlying4 _), (trodAll_cons_mk (Below.trod laidOut (by kernel_rfl) (of_decide_eq_true (by kernel_rfl)) k0 bel lt0) (trodAll_cons_mk (Below.trod laidOut (by kernel_rfl) (of_decide_eq_true (by kernel_rfl)) k1 bel lt1) (trodAll_cons_mk (Below.trod laidOut (by kernel_rfl) (of_decide_eq_true (by kernel_rfl)) k2 bel lt2) trodAll_mk0))), rfl, bel.frame _, fun h => by cases h⟩

theorem over : Rows.fnExactMarginOfRow.holds Try.pinned (OpenSpec.ofChange Rows.fnExactMarginOfSpec) :=
  OpenClaim.holds_of_wide_leaving 4 Try.f4 rfl rfl rfl rfl rfl rfl rfl ⟨rfl, rfl, rfl, rfl, rfl⟩ rfl rfl rfl rfl rfl (by kernel_rfl) Try.func4 (by kernel_rfl)
    (of_decide_eq_true (by kernel_rfl)) (by unfold Func.isWrapper; first | (rw [if_pos (by decide +kernel)]; kernel_rfl) | (rw [if_neg (by decide +kernel)]; exact ⟨rfl, rfl⟩))
    (fun os started H enc _ => leave_of_handed (lifted os started H enc))
end Go.Proofs.Ytelejihgechmgaa.LawMarginOf
namespace Go.Proofs.Ytelejihgechmgaa
theorem marginOf_holds : Rows.FnExactMarginOfSaid := LawMarginOf.over
#print axioms marginOf_holds
end Go.Proofs.Ytelejihgechmgaa
