/- At every list of rows the program's MapFault answers the specification's code, where the law's own bound on the sizes does not answer first; nothing that was there is changed. -/
import Derived.Test.YtbagaicbochmnaaArg
import Derived.Test.YtbagaicbochmnaaMp
import Derived.Test.YtbagaicbochmnaaEqs
import Derived.Handy
import Derived.Deep.RegionHeld3
import Derived.Deep.DeepCutAuto
namespace Go.Proofs.Ytbagaicbochmnaa.LawMapFault
open Go.ChangeShapes Go.WideShapes Go.ChangeAt Go.RowKit Go.Joins
set_option linter.unusedVariables false

theorem told_no {n : Nat} {L : Nat → Nat} {left r : Int} (h : Told n L left r) (h0 : ¬r < 0) : r + n + Sm L n = left := by
  rcases h with rfl | ⟨_, h⟩
  · omega
  · exact h
set_option maxHeartbeats 800000 in
theorem walk {w : World} {v : Value} {n : Nat} {L : Nat → Nat} {F : Rm.Mx} (h : RdMat w v n L F) (hn : n ≤ 9223372036854775807) (hL : ∀ i, i < n → L i ≤ 9223372036854775807) :
    Calls Try.prog 9 #[v] w fun e w' => e = .returned (.bool true) ∧ Below w.heap.size w w' := by
  have H : Hid (RdMat w v n L F) := h
  have HL : Hid (∀ i, i < n → L i ≤ 9223372036854775807) := hL
  clear h hL
  go_enter Try.func9, Try.ntmps9
  go_wp2_with fail
  refine (szSS_any H.out 1048576 (by omega) (by omega) hn HL.out).mono ?_
  rintro e w1 ⟨r, rfl, rfl, ht⟩
  have HT : Hid (Told n L 1048576 r) := ht
  clear ht
  by_cases hr : r < 0
  · go_wp2
    go_ret
    exact ⟨rfl, Below.refl _ _⟩
  have hsum := told_no HT.out hr
  have HS : Hid (∀ i, i < n → L i ≤ 1000000000000) := fun i hi => by have := le_Sm (L := L) hi; omega
  have hn2 : n ≤ 1000000000000 := by omega
  clear hsum HT
  go_wp2_with fail
  refine (toSS_any H.out hn2 HS.out).mono ?_
  rintro e w1 ⟨rfl, hm1, hb1⟩
  have M1 : Hid (Mat w.heap.size w1.heap.size w1 (newLie w.heap.size n L) n L F ∧ Below w.heap.size w w1) := ⟨hm1, hb1⟩
  clear hm1 hb1
  go_wp2_with fail
  refine (sMap_any _ _ _ _ L _ hn HL.out M1.out.1.tops).mono ?_
  rintro e w0 ⟨q0, rfl, hq0⟩
  have M0 : Hid (Below w.heap.size w w0) := M1.out.2.trans (by rw [hq0]; exact below_drewN (Below.refl _ _) q0)
  clear hq0 M1
  have H1 : Hid (RdMat w0 v n L F) := H.out.later M0.out
  go_wp2_with fail
  refine (toSS_any H1.out hn2 HS.out).mono ?_
  rintro e w2 ⟨rfl, hm2, hb2⟩
  have M2 : Hid (Mat w0.heap.size w2.heap.size w2 (newLie w0.heap.size n L) n L F ∧ Below w0.heap.size w0 w2) := ⟨hm2, hb2⟩
  clear hm2 hb2
  go_wp2_with fail
  refine (iMap_any _ _ _ _ L _ hn HL.out M2.out.1.tops).mono ?_
  rintro e w3 ⟨rfl, rfl⟩
  have H2 : Hid (RdMat w2 v n L F) := H1.out.later M2.out.2
  generalize mapc n L = code
  go_wp2_with fail
  refine (toSS_any H2.out hn2 HS.out).mono ?_
  rintro e w3 ⟨rfl, hm3, hb3⟩
  have M3 : Hid (Mat w2.heap.size w3.heap.size w3 (newLie w2.heap.size n L) n L F ∧ Below w2.heap.size w2 w3) := ⟨hm3, hb3⟩
  clear hm3 hb3
  go_wp2_with fail
  refine (eqSS_any (M2.out.1.rd.later M3.out.2) M3.out.1.rd hn2 HS.out).mono ?_
  rintro e w4 ⟨rfl, q, rfl⟩
  go_wp2
  go_ret
  exact ⟨rfl, below_drewN (M0.out.trans ((M2.out.2.mono M0.out.size).trans (M3.out.2.mono (Nat.le_trans M0.out.size M2.out.2.size)))) _⟩


set_option maxRecDepth 100000 in
theorem lifted (os : Os) (started : os.Started) (H : Type) (enc : TypeId × Value → H) :
    ReturnsInHanded {} Try.checked os 9 .any (Rows.fnExactMapFaultSpec.pre6 enc Try.prog Try.f9 Rows.fnExactMapFaultRow.domain false) (Rows.fnExactMapFaultSpec.post enc Try.prog Try.f9 false true false false) := by
  refine returnsInHanded_of_change (C := Try.checked) own started (by kernel_rfl) Try.func9
    (ChangeSpec.witness6 (enc := enc) (C := Try.checked) false ⟨#[], #[.slice none 0 0], []⟩ 8 (by kernel_rfl) (by kernel_rfl) (by kernel_rfl) (by kernel_rfl)) ?_
  intro W base args ds gs before hval0 hW hcnd _
  have hval : ∀ (j : Nat) t v, Try.f9.params[j]? = some t → args[j]? = some v → Value.okWide Try.prog W .any base t v := hval0
  have hW' := hW
  obtain ⟨p, q, hA0, hV, rfl, hfz, hnd⟩ := hW
  have hA : DataW.TrodAll enc Try.prog W 0 (fun _ => true) true Try.f9.params.toList args.toList ds p := hA0
  rw [Try.params9] at hA hval
  obtain ⟨v0, vs0, d0, ds0, p0, q0, hargs, rfl, rfl, h0, r0⟩ := trodAll_cons hA
  obtain ⟨rfl, rfl, rfl⟩ := trodAll_nil r0
  obtain rfl : args = #[v0] := by cases args; simp_all
  obtain ⟨rfl, rfl⟩ := trodVars_none hV
  have k0 := h0
  have lt0 : ∀ x ∈ p0, x.block < W.heap.size := by obtain ⟨m, hm⟩ := k0; exact DataW.trod_lt m _ _ _ hm
  obtain ⟨n0, L0, F0, R0, nb0, lb0⟩ := open_mat (hval 0 22 v0 rfl rfl) h0
  clear hA0 hval0
  refine (walk R0 nb0 lb0).mono fun e W' ⟨he, bel⟩ => ?_
  subst he
  exact ⟨_, rfl, _, _, _, [], _, [], hW', trodAll_mk1 (shut_bool Try.underlying4 _), (trodAll_cons_mk (Below.trod laidOut (by kernel_rfl) (of_decide_eq_true (by kernel_rfl)) k0 bel lt0) trodAll_mk0), rfl, bel.frame _, fun h => by cases h⟩

theorem over : Rows.fnExactMapFaultRow.holds Try.pinned (OpenSpec.ofChange Rows.fnExactMapFaultSpec) :=
  OpenClaim.holds_of_wide 9 Try.f9 rfl rfl rfl rfl rfl rfl rfl ⟨rfl, rfl, rfl, rfl, rfl⟩ rfl rfl rfl rfl rfl (by kernel_rfl) Try.func9 (by kernel_rfl)
    (of_decide_eq_true (by kernel_rfl)) (by unfold Func.isWrapper; first | (rw [if_pos (by decide +kernel)]; kernel_rfl) | (rw [if_neg (by decide +kernel)]; exact ⟨rfl, rfl⟩))
    (fun os started H enc _ => lifted os started H enc)
end Go.Proofs.Ytbagaicbochmnaa.LawMapFault
namespace Go.Proofs.Ytbagaicbochmnaa
theorem mapFault_holds : Rows.FnExactMapFaultSaid := LawMapFault.over
#print axioms mapFault_holds
end Go.Proofs.Ytbagaicbochmnaa
