/- At every argument the program's AimsFault answers as the specification, where the law's own bound on the sizes does not answer first; what it answers owns its memory; nothing that was there is changed. -/
import Derived.Test.YtelejihgechmgaaAf
import Derived.Test.YtelejihgechmgaaAk
import Derived.Test.YtelejihgechmgaaRw
import Derived.Test.YtelejihgechmgaaLv
import Derived.Handy
import Derived.Deep.RegionHeld3
import Derived.Deep.DeepCutAuto
namespace Go.Proofs.Ytelejihgechmgaa.LawAimsFault
open Go.ChangeShapes Go.WideShapes Go.ChangeAt Go.RowKit Go.Joins
set_option linter.unusedVariables false

theorem sAims_b {w : World} {ao : Option Addr} {n cap : Nat} {L : Nat → Li} {dims : Int} (h : RdL w (.slice ao n cap) n L) (hn : n ≤ 1048576) :
    Calls Try.prog 29 #[.slice ao n cap, .int .i64 dims] w fun e w' => e = .returned (.int .i64 (Mt.acode L n dims)) ∧ Below w.heap.size w w' :=
  (sAims_any h hn).mono fun e w' h => ⟨h.1, by rw [← h.2]; exact Below.refl _ _⟩
set_option maxHeartbeats 4000000 in
set_option maxRecDepth 20000 in
theorem walk {w : World} {v0 : Value} {n0 : Nat} {L0 : Nat → Li} (h0 : RdL w v0 n0 L0) (nb0 : n0 ≤ 9223372036854775807) (lb0 : LBd n0 L0) (n1 : Int) (na1 : -9223372036854775808 ≤ n1) (nz1 : n1 ≤ 9223372036854775807) :
    Calls Try.prog 6 #[v0, .int .i64 n1] w fun e w' => e = .returned (.bool true) ∧ Below w.heap.size w w' := by
  obtain ⟨va0, vc0, ev0⟩ : ∃ ao cap, v0 = .slice ao n0 cap := h0.shape
  subst ev0
  have H0 : Hid (RdL w (.slice va0 n0 vc0) n0 L0) := h0
  have HB0 : Hid (LBd n0 L0) := lb0
  clear h0 lb0
  have D_w : Hid (Below w.heap.size w w) := Below.refl _ _
  have zw : w.heap.size ≤ w.heap.size := Nat.le_refl _
  obtain ⟨c, hcc⟩ : ∃ c, c = Mt.acode L0 n0 n1 := ⟨_, rfl⟩
  have HCC : Hid (c = Mt.acode L0 n0 n1) := hcc
  clear hcc
  go_enter Try.func6, Try.ntmps6
  go_wp2_with fail
  refine (szLits_any (H0.out.later D_w.out) 1048576 (by omega) (by omega) nb0 HB0.out).mono ?_
  rintro e w1 ⟨left0, rfl, ht, hbb⟩
  have zw1 : w.heap.size ≤ w1.heap.size := hbb.size
  replace D_w : Hid (Below w.heap.size w w1) := D_w.out.trans (hbb.mono (by omega))
  clear hbb
  have HT0 : Hid (ToldL n0 L0 1048576 left0) := ht
  clear ht
  by_cases hr0 : left0 < 0
  · go_wp2
    go_ret
    exact ⟨rfl, D_w.out⟩
  have hs0 := ToldL.ok HT0.out hr0
  have hs0b : left0 ≤ 1048576 := ToldL.le HT0.out hr0
  have hm0 : (n0 : Int) ≤ 1048576 := by omega
  have HS0 : Hid (LFew n0 L0) := ⟨by omega, by have := hs0; omega⟩
  clear HT0
  go_wp2_with fail
  refine (toLits_any (H0.out.later D_w.out) HS0.out).mono ?_
  rintro e w2 ⟨gc0, rfl, hmo, hbb⟩
  have zw2 : w1.heap.size ≤ w2.heap.size := hbb.size
  replace D_w : Hid (Below w.heap.size w w2) := D_w.out.trans (hbb.mono (by omega))
  clear hbb
  have O_c0 : Hid (OwLs w1.heap.size w2.heap.size w2 gc0 n0 L0) := hmo
  clear hmo
  go_wp2_with fail
  refine (sAims_b (dims := n1) O_c0.out.rd (by omega)).mono ?_
  rintro e w3 ⟨rfl, hbb⟩
  have zw3 : w2.heap.size ≤ w3.heap.size := hbb.size
  replace O_c0 : Hid (OwLs w1.heap.size w2.heap.size w3 gc0 n0 L0) := O_c0.out.keep (keep_below hbb (by omega))
  replace D_w : Hid (Below w.heap.size w w3) := D_w.out.trans (hbb.mono (by omega))
  clear hbb
  rw [← HCC.out]
  clear O_c0
  go_wp2_with fail
  refine (toLits_any (H0.out.later D_w.out) HS0.out).mono ?_
  rintro e w4 ⟨gx0, rfl, hmo, hbb⟩
  have zw4 : w3.heap.size ≤ w4.heap.size := hbb.size
  replace D_w : Hid (Below w.heap.size w w4) := D_w.out.trans (hbb.mono (by omega))
  clear hbb
  have O_x0 : Hid (OwLs w3.heap.size w4.heap.size w4 gx0 n0 L0) := hmo
  clear hmo
  go_wp2_with fail
  refine (iAims_any (dims := n1) O_x0.out.rd (by omega)).mono ?_
  rintro e w5 ⟨rfl, hbb⟩
  have zw5 : w4.heap.size ≤ w5.heap.size := hbb.size
  replace O_x0 : Hid (OwLs w3.heap.size w4.heap.size w5 gx0 n0 L0) := O_x0.out.keep (keep_below hbb (by omega))
  replace D_w : Hid (Below w.heap.size w w5) := D_w.out.trans (hbb.mono (by omega))
  clear hbb
  rw [← HCC.out]
  go_wp2_with fail
  refine (toLits_any (H0.out.later D_w.out) HS0.out).mono ?_
  rintro e w6 ⟨gq, rfl, hmo, hbb⟩
  have zw6 : w5.heap.size ≤ w6.heap.size := hbb.size
  replace O_x0 : Hid (OwLs w3.heap.size w4.heap.size w6 gx0 n0 L0) := O_x0.out.keep (keep_below hbb (by omega))
  replace D_w : Hid (Below w.heap.size w w6) := D_w.out.trans (hbb.mono (by omega))
  clear hbb
  have O_q : Hid (OwLs w5.heap.size w6.heap.size w6 gq n0 L0) := hmo
  clear hmo
  go_wp2_with fail
  refine (eqLits_any O_x0.out.rd O_q.out.rd HS0.out).mono ?_
  rintro e w7 ⟨rfl, hbb⟩
  clear O_q
  have zw7 : w6.heap.size ≤ w7.heap.size := hbb.size
  replace O_x0 : Hid (OwLs w3.heap.size w4.heap.size w7 gx0 n0 L0) := O_x0.out.keep (keep_below hbb (by omega))
  replace D_w : Hid (Below w.heap.size w w7) := D_w.out.trans (hbb.mono (by omega))
  clear hbb
  go_wp2
  go_ret
  exact ⟨rfl, D_w.out⟩

set_option maxRecDepth 100000 in
theorem lifted (os : Os) (started : os.Started) (H : Type) (enc : TypeId × Value → H) :
    ReturnsInHanded {} Try.checked os 6 .any (Rows.fnExactAimsFaultSpec.pre6 enc Try.prog Try.f6 Rows.fnExactAimsFaultRow.domain false) (Rows.fnExactAimsFaultSpec.post enc Try.prog Try.f6 false true false false) := by
  refine returnsInHanded_of_change (C := Try.checked) own started (by kernel_rfl) Try.func6
    (ChangeSpec.witness6 (enc := enc) (C := Try.checked) false ⟨#[], #[.slice none 0 0, .int .i64 0], []⟩ 8 (by kernel_rfl) (by kernel_rfl) (by kernel_rfl) (by kernel_rfl)) ?_
  intro W base args ds gs before hval0 hW hcnd _
  have hval : ∀ (j : Nat) t v, Try.f6.params[j]? = some t → args[j]? = some v → Value.okWide Try.prog W .any base t v := hval0
  have hW' := hW
  obtain ⟨p, q, hA0, hV, rfl, hfz, hnd⟩ := hW
  have hA : DataW.TrodAll enc Try.prog W 0 (fun _ => true) true Try.f6.params.toList args.toList ds p := hA0
  rw [Try.params6] at hA hval
  obtain ⟨v0, vs0, d0, ds0, p0, q0, hargs, rfl, rfl, h0, r0⟩ := trodAll_cons hA
  obtain ⟨v1, vs1, d1, ds1, p1, q1, rfl, rfl, rfl, h1, r1⟩ := trodAll_cons r0
  obtain ⟨rfl, rfl, rfl⟩ := trodAll_nil r1
  obtain rfl : args = #[v0, v1] := by cases args; simp_all
  obtain ⟨rfl, rfl⟩ := trodVars_none hV
  have k0 := h0
  have lt0 : ∀ x ∈ p0, x.block < W.heap.size := by obtain ⟨m, hm⟩ := k0; exact DataW.trod_lt m _ _ _ hm
  obtain ⟨n0, L0, R0, nb0, lb0⟩ := open_aims (hval 0 42 v0 rfl rfl) h0
  have k1 := h1
  have lt1 : ∀ x ∈ p1, x.block < W.heap.size := by obtain ⟨m, hm⟩ := k1; exact DataW.trod_lt m _ _ _ hm
  obtain ⟨n1, rfl, _, _, w1⟩ := open_int Try.underlying2 (hval 1 2 v1 rfl rfl) h1
  clear hA0 hval0
  refine (walk R0 nb0 lb0 n1 (i64_lo w1) (i64_hi w1)).mono fun e W' ⟨he, bel⟩ => ?_
  subst he
  exact ⟨_, rfl, _, _, _, [], _, [], hW', trodAll_mk1 (shut_bool Try.underlying4 _), (trodAll_cons_mk (Below.trod laidOut (by kernel_rfl) (of_decide_eq_true (by kernel_rfl)) k0 bel lt0) (trodAll_cons_mk (Below.trod laidOut (by kernel_rfl) (of_decide_eq_true (by kernel_rfl)) k1 bel lt1) trodAll_mk0)), rfl, bel.frame _, fun h => by cases h⟩

theorem over : Rows.fnExactAimsFaultRow.holds Try.pinned (OpenSpec.ofChange Rows.fnExactAimsFaultSpec) :=
  OpenClaim.holds_of_wide_leaving 6 Try.f6 rfl rfl rfl rfl rfl rfl rfl ⟨rfl, rfl, rfl, rfl, rfl⟩ rfl rfl rfl rfl rfl (by kernel_rfl) Try.func6 (by kernel_rfl)
    (of_decide_eq_true (by kernel_rfl)) (by unfold Func.isWrapper; first | (rw [if_pos (by decide +kernel)]; kernel_rfl) | (rw [if_neg (by decide +kernel)]; exact ⟨rfl, rfl⟩))
    (fun os started H enc _ => leave_of_handed (lifted os started H enc))
end Go.Proofs.Ytelejihgechmgaa.LawAimsFault
namespace Go.Proofs.Ytelejihgechmgaa
theorem aimsFault_holds : Rows.FnExactAimsFaultSaid := LawAimsFault.over
#print axioms aimsFault_holds
end Go.Proofs.Ytelejihgechmgaa
