/- At every two numbers the program's BentPhases answers as the specification, in memory of its own that a second call does not reach; nothing that was there is changed. -/
import Derived.Test.YtgidoceflkdklaaBn
import Derived.Test.YtgidoceflkdklaaOpen
import Derived.Handy
import Derived.Deep.RegionHeld3
import Derived.Deep.DeepCutAuto
namespace Go.Proofs.Ytgidoceflkdklaa.LawBentPhases
open Go.ChangeShapes Go.WideShapes Go.ChangeAt Go.RowKit Go.Joins Fl
set_option linter.unusedVariables false

theorem bent_both (n p : Int) : ∃ (N : Nat) (F : Nat → Int), N ≤ 1024 ∧ (∀ W, LI 37 #[.int .i64 n, .int .i64 p] W N F) ∧ (∀ W, LI 38 #[.int .i64 n, .int .i64 p] W N F) := by
  by_cases h : n < 1 ∨ 1024 < n
  · exact ⟨0, _, by omega, fun W => sBent_bad n p h W, fun W => iBent_bad n p h W⟩
  · obtain ⟨k, rfl⟩ := Int.eq_ofNat_of_zero_le (show 0 ≤ n by omega)
    exact ⟨k, _, by omega, fun W => sBent_good k p (by omega) (by omega) W, fun W => iBent_good k p (by omega) (by omega) W⟩
set_option maxRecDepth 100000 in
set_option maxHeartbeats 6400000 in
theorem walk (n p : Int) (w : World) :
    Calls Try.prog 8 #[.int .i64 n, .int .i64 p] w fun e w' => e = .returned (.bool true) ∧ Below w.heap.size w w' := by
  obtain ⟨N, F, hN, SC0, IC0⟩ := bent_both n p
  have SC : Hid (∀ W, LI 37 #[.int .i64 n, .int .i64 p] W N F) := SC0
  have IC : Hid (∀ W, LI 38 #[.int .i64 n, .int .i64 p] W N F) := IC0
  clear SC0 IC0
  have hN2 : N ≤ 1000000000000 := by omega
  obtain ⟨M, hM⟩ : ∃ M : Int, M = 1 + N := ⟨_, rfl⟩
  have hM0 : ¬ M < 0 := by omega
  have hM1 : M ≤ 10000 := by omega
  have MK : Hid (∀ (lo hi : Nat) (W : World) (v : Value) (f : Nat → Int), OwS 2 lo hi W v N (fun i => .int .i64 (f i)) → Calls Try.prog 34 #[v, .int .i64 1] W fun e w' => e = .returned (.int .i64 M) ∧ OwS 2 lo hi w' v N (fun i => .int .i64 (1 + i)) ∧ Within lo hi W w' ∧ w'.heap.size = W.heap.size) := fun lo hi W v f h => by rw [hM]; exact markI_own h 1 (by omega) (by omega)
  have HL : Hid (∀ (lo hi : Nat) (W : World) (v : Value), OwS 2 lo hi W v N (fun i => .int .i64 (1 + i)) → Calls Try.prog 39 #[v, .int .i64 1] W fun e w' => e = .returned (.int .i64 M) ∧ W = w') := fun lo hi W v h => by rw [hM]; exact heldI_own h (by omega) (by omega)
  clear hM
  have HO : Hid (Below w.heap.size w w) := Below.refl _ _
  go_enter Try.func8, Try.ntmps8
  go_wp2_with fail
  refine (SC.out _).mono ?_
  rintro e w1 ⟨vs, rfl, os, b⟩
  have OS : Hid (OwS 2 w.heap.size w1.heap.size w1 vs N (fun i => .int .i64 (F i))) := os
  clear os
  have Z1 : Hid (w.heap.size ≤ w1.heap.size) := b.size
  replace HO : Hid (Below w.heap.size w w1) := HO.out.trans (b.mono HO.out.size)
  clear b
  go_wp2_with fail
  refine (IC.out _).mono ?_
  rintro e w2 ⟨vg, rfl, og, b⟩
  have OG : Hid (OwS 2 w1.heap.size w2.heap.size w2 vg N (fun i => .int .i64 (F i))) := og
  clear og
  replace OS : Hid (OwS 2 w.heap.size w1.heap.size w2 vs N (fun i => .int .i64 (F i))) := OS.out.later b
  have Z2 : Hid (w1.heap.size ≤ w2.heap.size) := b.size
  replace HO : Hid (Below w.heap.size w w2) := HO.out.trans (b.mono HO.out.size)
  clear b
  go_wp2_with fail
  refine ((eqI_any OG.out.rdI OS.out.rdI hN2).mono fun _ _ h => drew_below h).mono ?_
  rintro e w3 ⟨rfl, b⟩
  replace OS : Hid (OwS 2 w.heap.size w1.heap.size w3 vs N (fun i => .int .i64 (F i))) := OS.out.later b
  replace OG : Hid (OwS 2 w1.heap.size w2.heap.size w3 vg N (fun i => .int .i64 (F i))) := OG.out.later b
  have Z3 : Hid (w2.heap.size ≤ w3.heap.size) := b.size
  replace HO : Hid (Below w.heap.size w w3) := HO.out.trans (b.mono HO.out.size)
  clear b
  go_wp2_with fail
  refine (MK.out _ _ _ _ _ OG.out).mono ?_
  rintro e w4 ⟨rfl, sm, wi, zm⟩
  have Z4 : Hid (w3.heap.size ≤ w4.heap.size) := Nat.le_of_eq zm.symm
  replace OS : Hid (OwS 2 w.heap.size w1.heap.size w4 vs N (fun i => .int .i64 (F i))) := OS.out.under wi (by have := Z1.out; have := Z2.out; have := Z3.out; have := Z4.out; omega)
  replace OG : Hid (OwS 2 w1.heap.size w2.heap.size w4 vg N (fun i => .int .i64 (1 + i))) := sm
  replace HO : Hid (Below w.heap.size w w4) := HO.out.trans (wi.below.mono (by have := Z1.out; have := Z2.out; have := Z3.out; have := Z4.out; omega))
  clear wi zm sm
  go_wp2_with fail
  refine (HL.out _ _ _ _ OG.out).mono ?_
  rintro e wx ⟨rfl, rfl⟩
  go_wp2_with fail
  refine (IC.out _).mono ?_
  rintro e w5 ⟨vh, rfl, oh, b⟩
  have OH : Hid (OwS 2 w4.heap.size w5.heap.size w5 vh N (fun i => .int .i64 (F i))) := oh
  clear oh
  replace OS : Hid (OwS 2 w.heap.size w1.heap.size w5 vs N (fun i => .int .i64 (F i))) := OS.out.later b
  replace OG : Hid (OwS 2 w1.heap.size w2.heap.size w5 vg N (fun i => .int .i64 (1 + i))) := OG.out.later b
  have Z5 : Hid (w4.heap.size ≤ w5.heap.size) := b.size
  replace HO : Hid (Below w.heap.size w w5) := HO.out.trans (b.mono HO.out.size)
  clear b
  go_wp2_with fail
  refine ((eqI_any OH.out.rdI OS.out.rdI hN2).mono fun _ _ h => drew_below h).mono ?_
  rintro e w6 ⟨rfl, b⟩
  replace OS : Hid (OwS 2 w.heap.size w1.heap.size w6 vs N (fun i => .int .i64 (F i))) := OS.out.later b
  replace OG : Hid (OwS 2 w1.heap.size w2.heap.size w6 vg N (fun i => .int .i64 (1 + i))) := OG.out.later b
  replace OH : Hid (OwS 2 w4.heap.size w5.heap.size w6 vh N (fun i => .int .i64 (F i))) := OH.out.later b
  have Z6 : Hid (w5.heap.size ≤ w6.heap.size) := b.size
  replace HO : Hid (Below w.heap.size w w6) := HO.out.trans (b.mono HO.out.size)
  clear b
  go_wp2_with fail
  refine (HL.out _ _ _ _ OG.out).mono ?_
  rintro e wx ⟨rfl, rfl⟩
  go_wp2
  go_ret
  exact ⟨rfl, HO.out⟩

set_option maxRecDepth 100000 in
theorem lifted (os : Os) (started : os.Started) (H : Type) (enc : TypeId × Value → H) :
    ReturnsInHanded {} Try.checked os 8 .any (Rows.fnExactBentPhasesSpec.pre6 enc Try.prog Try.f8 Rows.fnExactBentPhasesRow.domain false) (Rows.fnExactBentPhasesSpec.post enc Try.prog Try.f8 false true false false) := by
  refine returnsInHanded_of_change (C := Try.checked) own started (by kernel_rfl) Try.func8
    (ChangeSpec.witness6 (enc := enc) (C := Try.checked) false ⟨#[], #[.int .i64 0, .int .i64 0], []⟩ 8 (by kernel_rfl) (by kernel_rfl) (by kernel_rfl) (by kernel_rfl)) ?_
  intro W base args ds gs before hval0 hW hcnd _
  have hval : ∀ (j : Nat) t v, Try.f8.params[j]? = some t → args[j]? = some v → Value.okWide Try.prog W .any base t v := hval0
  have hW' := hW
  obtain ⟨p, q, hA0, hV, rfl, hfz, hnd⟩ := hW
  have hA : DataW.TrodAll enc Try.prog W 0 (fun _ => true) true Try.f8.params.toList args.toList ds p := hA0
  rw [Try.params8] at hA hval
  obtain ⟨v0, vs0, d0, ds0, p0, q0, hargs, rfl, rfl, h0, r0⟩ := trodAll_cons hA
  obtain ⟨v1, vs1, d1, ds1, p1, q1, rfl, rfl, rfl, h1, r1⟩ := trodAll_cons r0
  obtain ⟨rfl, rfl, rfl⟩ := trodAll_nil r1
  obtain rfl : args = #[v0, v1] := by cases args; simp_all
  obtain ⟨rfl, rfl⟩ := trodVars_none hV
  have k0 := h0
  have lt0 : ∀ x ∈ p0, x.block < W.heap.size := by obtain ⟨m, hm⟩ := k0; exact DataW.trod_lt m _ _ _ hm
  obtain ⟨n0, rfl, _, _, w0⟩ := open_int Try.underlying2 (hval 0 2 v0 rfl rfl) h0
  have k1 := h1
  have lt1 : ∀ x ∈ p1, x.block < W.heap.size := by obtain ⟨m, hm⟩ := k1; exact DataW.trod_lt m _ _ _ hm
  obtain ⟨n1, rfl, _, _, w1⟩ := open_int Try.underlying2 (hval 1 2 v1 rfl rfl) h1
  clear hA0 hval0
  refine (walk n0 n1 W).mono fun e W' ⟨he, bel⟩ => ?_
  subst he
  exact ⟨_, rfl, _, _, _, [], _, [], hW', trodAll_mk1 (shut_bool Try.underlying4 _), (trodAll_cons_mk (Below.trod laidOut (by kernel_rfl) (of_decide_eq_true (by kernel_rfl)) k0 bel lt0) (trodAll_cons_mk (Below.trod laidOut (by kernel_rfl) (of_decide_eq_true (by kernel_rfl)) k1 bel lt1) trodAll_mk0)), rfl, bel.frame _, fun h => by cases h⟩

theorem over : Rows.fnExactBentPhasesRow.holds Try.pinned (OpenSpec.ofChange Rows.fnExactBentPhasesSpec) :=
  OpenClaim.holds_of_wide 8 Try.f8 rfl rfl rfl rfl rfl rfl rfl ⟨rfl, rfl, rfl, rfl, rfl⟩ rfl rfl rfl rfl rfl (by kernel_rfl) Try.func8 (by kernel_rfl)
    (of_decide_eq_true (by kernel_rfl)) (by unfold Func.isWrapper; first | (rw [if_pos (by decide +kernel)]; kernel_rfl) | (rw [if_neg (by decide +kernel)]; exact ⟨rfl, rfl⟩))
    (fun os started H enc _ => lifted os started H enc)
end Go.Proofs.Ytgidoceflkdklaa.LawBentPhases
namespace Go.Proofs.Ytgidoceflkdklaa
theorem bentPhases_holds : Rows.FnExactBentPhasesSaid := LawBentPhases.over
#print axioms bentPhases_holds
end Go.Proofs.Ytgidoceflkdklaa
