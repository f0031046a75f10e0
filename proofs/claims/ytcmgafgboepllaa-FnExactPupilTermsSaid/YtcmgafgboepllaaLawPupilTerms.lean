/- At every degree and place the program's PupilTerms answers as the specification, float by float, all NaNs being one, in memory of its own that a second call does not reach; nothing that was there is changed. -/
import Derived.Test.YtcmgafgboepllaaPi
import Derived.Test.YtcmgafgboepllaaArgf
import Derived.Handy
import Derived.Deep.RegionHeld3
import Derived.Deep.DeepCutAuto
namespace Go.Proofs.Ytcmgafgboepllaa.LawPupilTerms
open Go.ChangeShapes Go.WideShapes Go.ChangeAt Go.RowKit Go.Joins Fl
set_option linter.unusedVariables false

set_option maxRecDepth 100000 in
set_option maxHeartbeats 6400000 in
theorem walk (d : Int) {x y : Nat} {X Y : Option Nat} (hx : Fc x X) (hy : Fc y Y) (w : World) :
    Calls Try.prog 5 #[.int .i64 d, .float .f64 x, .float .f64 y] w fun e w' => e = .returned (.bool true) ∧ Below w.heap.size w w' := by
  obtain ⟨n, o, hn, SC, IC⟩ : ∃ (n : Nat) (o : Nat → Option Nat), n ≤ 21 ∧ Hid (∀ W, LV 28 #[.int .i64 d, .float .f64 x, .float .f64 y] W n o) ∧ Hid (∀ W, LV 29 #[.int .i64 d, .float .f64 x, .float .f64 y] W n o) :=
    ⟨(degC X Y d).length, fun i => (degC X Y d).getD i none, degC_len X Y d, fun W => sTerms_any hx hy d W, fun W => iTerms_any hx hy d W⟩
  clear hx hy
  obtain ⟨M, hM⟩ : ∃ M : Int, M = 1 + n := ⟨_, rfl⟩
  have hM0 : ¬ M < 0 := by omega
  have hM1 : M ≤ 100 := by omega
  have MK : Hid (∀ (lo hi : Nat) (W : World) (v : Value) (f : Nat → Nat), OwS 24 lo hi W v n (fun i => .float .f64 (f i)) → Calls Try.prog 25 #[v, .int .i64 1] W fun e w' => e = .returned (.int .i64 M) ∧ OwS 24 lo hi w' v n (fun i => .float .f64 (mk (1 + i))) ∧ Within lo hi W w' ∧ w'.heap.size = W.heap.size) := fun lo hi W v f h => by rw [hM]; exact markF_own h 1 (by omega) (by omega)
  have HL : Hid (∀ (lo hi : Nat) (W : World) (v : Value), OwS 24 lo hi W v n (fun i => .float .f64 (mk (1 + i))) → Calls Try.prog 30 #[v, .int .i64 1] W fun e w' => e = .returned (.int .i64 M) ∧ W = w') := fun lo hi W v h => by rw [hM]; exact heldF_own h (by omega) (by omega)
  have hn2 : n ≤ 1000000000000 := by omega
  clear hM
  have HO : Hid (Below w.heap.size w w) := Below.refl _ _
  go_enter Try.func5, Try.ntmps5
  go_wp2_with fail
  refine (SC.out _).mono ?_
  rintro e w1 ⟨vs, fs, rfl, os, cs, b⟩
  have OS : Hid (OwS 24 w.heap.size w1.heap.size w1 vs n (fun i => .float .f64 (fs i))) := os
  have CS : Hid (∀ i, i < n → Fc (fs i) (o i)) := cs
  clear os cs
  have Z1 : Hid (w.heap.size ≤ w1.heap.size) := b.size
  replace HO : Hid (Below w.heap.size w w1) := HO.out.trans (b.mono HO.out.size)
  clear b
  go_wp2_with fail
  refine (IC.out _).mono ?_
  rintro e w2 ⟨vg, fg, rfl, og, cg, b⟩
  have OG : Hid (OwS 24 w1.heap.size w2.heap.size w2 vg n (fun i => .float .f64 (fg i))) := og
  have CG : Hid (∀ i, i < n → Fc (fg i) (o i)) := cg
  clear og cg
  replace OS : Hid (OwS 24 w.heap.size w1.heap.size w2 vs n (fun i => .float .f64 (fs i))) := OS.out.later b
  have Z2 : Hid (w1.heap.size ≤ w2.heap.size) := b.size
  replace HO : Hid (Below w.heap.size w w2) := HO.out.trans (b.mono HO.out.size)
  clear b
  go_wp2_with fail
  refine ((eqF_any OG.out.rd OS.out.rd hn2 CG.out CS.out).mono fun _ _ h => drew_below h).mono ?_
  rintro e w3 ⟨rfl, b⟩
  replace OS : Hid (OwS 24 w.heap.size w1.heap.size w3 vs n (fun i => .float .f64 (fs i))) := OS.out.later b
  replace OG : Hid (OwS 24 w1.heap.size w2.heap.size w3 vg n (fun i => .float .f64 (fg i))) := OG.out.later b
  have Z3 : Hid (w2.heap.size ≤ w3.heap.size) := b.size
  replace HO : Hid (Below w.heap.size w w3) := HO.out.trans (b.mono HO.out.size)
  clear b
  go_wp2_with fail
  refine (MK.out _ _ _ _ _ OG.out).mono ?_
  rintro e w4 ⟨rfl, sm, wi, zm⟩
  have Z4 : Hid (w4.heap.size = w3.heap.size) := zm
  replace OS : Hid (OwS 24 w.heap.size w1.heap.size w4 vs n (fun i => .float .f64 (fs i))) := OS.out.under wi (by have := Z1.out; have := Z2.out; have := Z3.out; have := Z4.out; omega)
  replace OG : Hid (OwS 24 w1.heap.size w2.heap.size w4 vg n (fun i => .float .f64 (mk (1 + i)))) := sm
  replace HO : Hid (Below w.heap.size w w4) := HO.out.trans (wi.below.mono (by have := Z1.out; have := Z2.out; have := Z3.out; have := Z4.out; omega))
  clear wi zm sm
  go_wp2_with fail
  refine (HL.out _ _ _ _ OG.out).mono ?_
  rintro e wx ⟨rfl, rfl⟩
  go_wp2_with fail
  refine (IC.out _).mono ?_
  rintro e w5 ⟨vh, fh, rfl, oh, ch, b⟩
  have OH : Hid (OwS 24 w4.heap.size w5.heap.size w5 vh n (fun i => .float .f64 (fh i))) := oh
  have CH : Hid (∀ i, i < n → Fc (fh i) (o i)) := ch
  clear oh ch
  replace OS : Hid (OwS 24 w.heap.size w1.heap.size w5 vs n (fun i => .float .f64 (fs i))) := OS.out.later b
  replace OG : Hid (OwS 24 w1.heap.size w2.heap.size w5 vg n (fun i => .float .f64 (mk (1 + i)))) := OG.out.later b
  have Z5 : Hid (w4.heap.size ≤ w5.heap.size) := b.size
  replace HO : Hid (Below w.heap.size w w5) := HO.out.trans (b.mono HO.out.size)
  clear b
  go_wp2_with fail
  refine ((eqF_any OH.out.rd OS.out.rd hn2 CH.out CS.out).mono fun _ _ h => drew_below h).mono ?_
  rintro e w6 ⟨rfl, b⟩
  replace OS : Hid (OwS 24 w.heap.size w1.heap.size w6 vs n (fun i => .float .f64 (fs i))) := OS.out.later b
  replace OG : Hid (OwS 24 w1.heap.size w2.heap.size w6 vg n (fun i => .float .f64 (mk (1 + i)))) := OG.out.later b
  replace OH : Hid (OwS 24 w4.heap.size w5.heap.size w6 vh n (fun i => .float .f64 (fh i))) := OH.out.later b
  have Z6 : Hid (w5.heap.size ≤ w6.heap.size) := b.size
  replace HO : Hid (Below w.heap.size w w6) := HO.out.trans (b.mono HO.out.size)
  clear b
  go_wp2_with fail
  refine (HL.out _ _ _ _ OG.out).mono ?_
  rintro e wx ⟨rfl, rfl⟩
  go_wp2
  go_ret
  exact ⟨rfl, HO.out⟩

set_option maxRecDepth 100000 in
theorem lifted (os : Os) (started : os.Started) (H : Type) (enc : TypeId × Value → H) :
    ReturnsInHanded {} Try.checked os 5 .any (Rows.fnExactPupilTermsSpec.pre6 enc Try.prog Try.f5 Rows.fnExactPupilTermsRow.domain false) (Rows.fnExactPupilTermsSpec.post enc Try.prog Try.f5 false true false false) := by
  refine returnsInHanded_of_change (C := Try.checked) own started (by kernel_rfl) Try.func5
    (ChangeSpec.witness6 (enc := enc) (C := Try.checked) false ⟨#[], #[.int .i64 0, .float .f64 0, .float .f64 0], []⟩ 8 (by kernel_rfl) (by kernel_rfl) (by kernel_rfl) (by kernel_rfl)) ?_
  intro W base args ds gs before hval0 hW hcnd _
  have hval : ∀ (j : Nat) t v, Try.f5.params[j]? = some t → args[j]? = some v → Value.okWide Try.prog W .any base t v := hval0
  have hW' := hW
  obtain ⟨p, q, hA0, hV, rfl, hfz, hnd⟩ := hW
  have hA : DataW.TrodAll enc Try.prog W 0 (fun _ => true) true Try.f5.params.toList args.toList ds p := hA0
  rw [Try.params5] at hA hval
  obtain ⟨v0, vs0, d0, ds0, p0, q0, hargs, rfl, rfl, h0, r0⟩ := trodAll_cons hA
  obtain ⟨v1, vs1, d1, ds1, p1, q1, rfl, rfl, rfl, h1, r1⟩ := trodAll_cons r0
  obtain ⟨v2, vs2, d2, ds2, p2, q2, rfl, rfl, rfl, h2, r2⟩ := trodAll_cons r1
  obtain ⟨rfl, rfl, rfl⟩ := trodAll_nil r2
  obtain rfl : args = #[v0, v1, v2] := by cases args; simp_all
  obtain ⟨rfl, rfl⟩ := trodVars_none hV
  have k0 := h0
  have lt0 : ∀ x ∈ p0, x.block < W.heap.size := by obtain ⟨m, hm⟩ := k0; exact DataW.trod_lt m _ _ _ hm
  obtain ⟨n0, rfl, _, _, w0⟩ := open_int Try.underlying2 (hval 0 2 v0 rfl rfl) h0
  have k1 := h1
  have lt1 : ∀ x ∈ p1, x.block < W.heap.size := by obtain ⟨m, hm⟩ := k1; exact DataW.trod_lt m _ _ _ hm
  obtain ⟨a1, rfl, z1⟩ := open_flt (hval 1 24 v1 rfl rfl) h1
  have k2 := h2
  have lt2 : ∀ x ∈ p2, x.block < W.heap.size := by obtain ⟨m, hm⟩ := k2; exact DataW.trod_lt m _ _ _ hm
  obtain ⟨a2, rfl, z2⟩ := open_flt (hval 2 24 v2 rfl rfl) h2
  clear hA0 hval0
  refine (walk n0 z1 z2 W).mono fun e W' ⟨he, bel⟩ => ?_
  subst he
  exact ⟨_, rfl, _, _, _, [], _, [], hW', trodAll_mk1 (shut_bool Try.underlying4 _), (trodAll_cons_mk (Below.trod laidOut (by kernel_rfl) (of_decide_eq_true (by kernel_rfl)) k0 bel lt0) (trodAll_cons_mk (Below.trod laidOut (by kernel_rfl) (of_decide_eq_true (by kernel_rfl)) k1 bel lt1) (trodAll_cons_mk (Below.trod laidOut (by kernel_rfl) (of_decide_eq_true (by kernel_rfl)) k2 bel lt2) trodAll_mk0))), rfl, bel.frame _, fun h => by cases h⟩

theorem over : Rows.fnExactPupilTermsRow.holds Try.pinned (OpenSpec.ofChange Rows.fnExactPupilTermsSpec) :=
  OpenClaim.holds_of_wide 5 Try.f5 rfl rfl rfl rfl rfl rfl rfl ⟨rfl, rfl, rfl, rfl, rfl⟩ rfl rfl rfl rfl rfl (by kernel_rfl) Try.func5 (by kernel_rfl)
    (of_decide_eq_true (by kernel_rfl)) (by unfold Func.isWrapper; first | (rw [if_pos (by decide +kernel)]; kernel_rfl) | (rw [if_neg (by decide +kernel)]; exact ⟨rfl, rfl⟩))
    (fun os started H enc _ => lifted os started H enc)
end Go.Proofs.Ytcmgafgboepllaa.LawPupilTerms
namespace Go.Proofs.Ytcmgafgboepllaa
theorem pupilTerms_holds : Rows.FnExactPupilTermsSaid := LawPupilTerms.over
#print axioms pupilTerms_holds
end Go.Proofs.Ytcmgafgboepllaa
