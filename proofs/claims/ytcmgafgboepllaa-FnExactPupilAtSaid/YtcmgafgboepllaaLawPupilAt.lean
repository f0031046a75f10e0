/- At every list, degree and place the program's PupilAt answers as the specification, all NaNs being one, where the law's own bound on the list's length does not answer first; nothing that was there is changed. -/
import Derived.Test.YtcmgafgboepllaaPa
import Derived.Test.YtcmgafgboepllaaArgf
import Derived.Handy
import Derived.Deep.RegionHeld3
import Derived.Deep.DeepCutAuto
namespace Go.Proofs.Ytcmgafgboepllaa.LawPupilAt
open Go.ChangeShapes Go.WideShapes Go.ChangeAt Go.RowKit Go.Joins Fl
set_option linter.unusedVariables false

set_option maxRecDepth 100000 in
set_option maxHeartbeats 6400000 in
theorem walk {w : World} {v : Value} {n : Nat} {f : Nat → Nat} (h : RdF w v n f) (hn : n ≤ 9223372036854775807) (hf : ∀ i, i < n → f i < 18446744073709551616) (d : Int) {x y : Nat} {X Y : Option Nat} (hx : Fc x X) (hy : Fc y Y) :
    Calls Try.prog 7 #[v, .int .i64 d, .float .f64 x, .float .f64 y] w fun e w' => e = .returned (.bool true) ∧ Below w.heap.size w w' := by
  obtain ⟨ao, cap, rfl⟩ : ∃ ao cap, v = .slice ao n cap := by
    rcases h with ⟨ao, cap, rfl, rfl⟩ | ⟨b, off, cap, rfl, _⟩
    · exact ⟨_, _, rfl⟩
    · exact ⟨_, _, rfl⟩
  have H : Hid (RdF w (.slice ao n cap) n f) := h
  have HF : Hid (∀ i, i < n → Fc (f i) (cl (f i))) := fun i hi => fc_own (hf i hi)
  have HX : Hid (Fc x X ∧ Fc y Y) := ⟨hx, hy⟩
  clear h hf hx hy
  go_enter Try.func7, Try.ntmps7
  by_cases hb : 1048576 < n
  · have hbI : (1048576 : Int) < n := by omega
    go_wp2
    go_ret
    exact ⟨rfl, Below.refl _ _⟩
  have hbI : ¬ (1048576 : Int) < n := by omega
  have hn2 : n ≤ 1000000000000 := by omega
  obtain ⟨C, SC, IC⟩ : ∃ C : Option Nat, Hid (∀ W v, RdF W v n f → FV 40 #[v, .int .i64 d, .float .f64 x, .float .f64 y] W C) ∧ Hid (∀ W v, RdF W v n f → FV 41 #[v, .int .i64 d, .float .f64 x, .float .f64 y] W C) :=
    ⟨atC (fun i => cl (f i)) n X Y d, fun W v h => sAt_any h hn2 HF.out d HX.out.1 HX.out.2, fun W v h => iAt_any h hn2 HF.out d HX.out.1 HX.out.2⟩
  clear HX
  have HO : Hid (Below w.heap.size w w) := Below.refl _ _
  go_wp2_with fail
  refine (toS_any (H.out.later HO.out) hn2).mono ?_
  rintro e w1 ⟨rfl, sx, b, zx⟩
  have SA : Hid (Seg w1 w.heap.size 24 0 n (fun i => .float .f64 (f i))) := sx
  clear sx zx
  have Z1 : Hid (w.heap.size ≤ w1.heap.size) := b.size
  replace HO : Hid (Below w.heap.size w w1) := HO.out.trans (b.mono HO.out.size)
  clear b
  go_wp2_with fail
  refine (SC.out _ _ SA.out.rd).mono ?_
  rintro e w2 ⟨zs, rfl, cs, b⟩
  have CS : Hid (Fc zs C) := cs
  clear cs
  replace SA : Hid (Seg w2 w.heap.size 24 0 n (fun i => .float .f64 (f i))) := SA.out.below b
  have Z2 : Hid (w1.heap.size ≤ w2.heap.size) := b.size
  replace HO : Hid (Below w.heap.size w w2) := HO.out.trans (b.mono HO.out.size)
  clear b
  clear SA
  go_wp2_with fail
  refine (toS_any (H.out.later HO.out) hn2).mono ?_
  rintro e w3 ⟨rfl, sx, b, zx⟩
  have SX : Hid (Seg w3 w2.heap.size 24 0 n (fun i => .float .f64 (f i))) := sx
  clear sx zx
  have Z3 : Hid (w2.heap.size ≤ w3.heap.size) := b.size
  replace HO : Hid (Below w.heap.size w w3) := HO.out.trans (b.mono HO.out.size)
  clear b
  go_wp2_with fail
  refine (IC.out _ _ SX.out.rd).mono ?_
  rintro e w4 ⟨zg, rfl, cg, b⟩
  have CG : Hid (Fc zg C) := cg
  clear cg
  replace SX : Hid (Seg w4 w2.heap.size 24 0 n (fun i => .float .f64 (f i))) := SX.out.below b
  have Z4 : Hid (w3.heap.size ≤ w4.heap.size) := b.size
  replace HO : Hid (Below w.heap.size w w4) := HO.out.trans (b.mono HO.out.size)
  clear b
  go_wp2_with fail
  refine (same_any CG.out.lx CS.out.lx (CG.out.c.trans CS.out.c.symm) _).mono ?_
  rintro e wx ⟨rfl, rfl⟩
  go_wp2_with fail
  refine (toS_any (H.out.later HO.out) hn2).mono ?_
  rintro e w5 ⟨rfl, sx, b, zx⟩
  have SY : Hid (Seg w5 w4.heap.size 24 0 n (fun i => .float .f64 (f i))) := sx
  clear sx zx
  replace SX : Hid (Seg w5 w2.heap.size 24 0 n (fun i => .float .f64 (f i))) := SX.out.below b
  have Z5 : Hid (w4.heap.size ≤ w5.heap.size) := b.size
  replace HO : Hid (Below w.heap.size w w5) := HO.out.trans (b.mono HO.out.size)
  clear b
  go_wp2_with fail
  refine ((eqF_any SX.out.rd SY.out.rd hn2 HF.out HF.out).mono fun _ _ h => drew_below h).mono ?_
  rintro e w6 ⟨rfl, b⟩
  replace SX : Hid (Seg w6 w2.heap.size 24 0 n (fun i => .float .f64 (f i))) := SX.out.below b
  replace SY : Hid (Seg w6 w4.heap.size 24 0 n (fun i => .float .f64 (f i))) := SY.out.below b
  have Z6 : Hid (w5.heap.size ≤ w6.heap.size) := b.size
  replace HO : Hid (Below w.heap.size w w6) := HO.out.trans (b.mono HO.out.size)
  clear b
  go_wp2
  go_ret
  exact ⟨rfl, HO.out⟩

set_option maxRecDepth 100000 in
theorem lifted (os : Os) (started : os.Started) (H : Type) (enc : TypeId × Value → H) :
    ReturnsInHanded {} Try.checked os 7 .any (Rows.fnExactPupilAtSpec.pre6 enc Try.prog Try.f7 Rows.fnExactPupilAtRow.domain false) (Rows.fnExactPupilAtSpec.post enc Try.prog Try.f7 false true false false) := by
  refine returnsInHanded_of_change (C := Try.checked) own started (by kernel_rfl) Try.func7
    (ChangeSpec.witness6 (enc := enc) (C := Try.checked) false ⟨#[], #[.slice none 0 0, .int .i64 0, .float .f64 0, .float .f64 0], []⟩ 8 (by kernel_rfl) (by kernel_rfl) (by kernel_rfl) (by kernel_rfl)) ?_
  intro W base args ds gs before hval0 hW hcnd _
  have hval : ∀ (j : Nat) t v, Try.f7.params[j]? = some t → args[j]? = some v → Value.okWide Try.prog W .any base t v := hval0
  have hW' := hW
  obtain ⟨p, q, hA0, hV, rfl, hfz, hnd⟩ := hW
  have hA : DataW.TrodAll enc Try.prog W 0 (fun _ => true) true Try.f7.params.toList args.toList ds p := hA0
  rw [Try.params7] at hA hval
  obtain ⟨v0, vs0, d0, ds0, p0, q0, hargs, rfl, rfl, h0, r0⟩ := trodAll_cons hA
  obtain ⟨v1, vs1, d1, ds1, p1, q1, rfl, rfl, rfl, h1, r1⟩ := trodAll_cons r0
  obtain ⟨v2, vs2, d2, ds2, p2, q2, rfl, rfl, rfl, h2, r2⟩ := trodAll_cons r1
  obtain ⟨v3, vs3, d3, ds3, p3, q3, rfl, rfl, rfl, h3, r3⟩ := trodAll_cons r2
  obtain ⟨rfl, rfl, rfl⟩ := trodAll_nil r3
  obtain rfl : args = #[v0, v1, v2, v3] := by cases args; simp_all
  obtain ⟨rfl, rfl⟩ := trodVars_none hV
  have k0 := h0
  have lt0 : ∀ x ∈ p0, x.block < W.heap.size := by obtain ⟨m, hm⟩ := k0; exact DataW.trod_lt m _ _ _ hm
  obtain ⟨n0, F0, R0, nb0, fb0⟩ := open_frow (hval 0 34 v0 rfl rfl) h0
  have k1 := h1
  have lt1 : ∀ x ∈ p1, x.block < W.heap.size := by obtain ⟨m, hm⟩ := k1; exact DataW.trod_lt m _ _ _ hm
  obtain ⟨n1, rfl, _, _, w1⟩ := open_int Try.underlying2 (hval 1 2 v1 rfl rfl) h1
  have k2 := h2
  have lt2 : ∀ x ∈ p2, x.block < W.heap.size := by obtain ⟨m, hm⟩ := k2; exact DataW.trod_lt m _ _ _ hm
  obtain ⟨a2, rfl, z2⟩ := open_flt (hval 2 24 v2 rfl rfl) h2
  have k3 := h3
  have lt3 : ∀ x ∈ p3, x.block < W.heap.size := by obtain ⟨m, hm⟩ := k3; exact DataW.trod_lt m _ _ _ hm
  obtain ⟨a3, rfl, z3⟩ := open_flt (hval 3 24 v3 rfl rfl) h3
  clear hA0 hval0
  refine (walk R0 nb0 fb0 n1 z2 z3).mono fun e W' ⟨he, bel⟩ => ?_
  subst he
  exact ⟨_, rfl, _, _, _, [], _, [], hW', trodAll_mk1 (shut_bool Try.underlying4 _), (trodAll_cons_mk (Below.trod laidOut (by kernel_rfl) (of_decide_eq_true (by kernel_rfl)) k0 bel lt0) (trodAll_cons_mk (Below.trod laidOut (by kernel_rfl) (of_decide_eq_true (by kernel_rfl)) k1 bel lt1) (trodAll_cons_mk (Below.trod laidOut (by kernel_rfl) (of_decide_eq_true (by kernel_rfl)) k2 bel lt2) (trodAll_cons_mk (Below.trod laidOut (by kernel_rfl) (of_decide_eq_true (by kernel_rfl)) k3 bel lt3) trodAll_mk0)))), rfl, bel.frame _, fun h => by cases h⟩

theorem over : Rows.fnExactPupilAtRow.holds Try.pinned (OpenSpec.ofChange Rows.fnExactPupilAtSpec) :=
  OpenClaim.holds_of_wide 7 Try.f7 rfl rfl rfl rfl rfl rfl rfl ⟨rfl, rfl, rfl, rfl, rfl⟩ rfl rfl rfl rfl rfl (by kernel_rfl) Try.func7 (by kernel_rfl)
    (of_decide_eq_true (by kernel_rfl)) (by unfold Func.isWrapper; first | (rw [if_pos (by decide +kernel)]; kernel_rfl) | (rw [if_neg (by decide +kernel)]; exact ⟨rfl, rfl⟩))
    (fun os started H enc _ => lifted os started H enc)
end Go.Proofs.Ytcmgafgboepllaa.LawPupilAt
namespace Go.Proofs.Ytcmgafgboepllaa
theorem pupilAt_holds : Rows.FnExactPupilAtSaid := LawPupilAt.over
#print axioms pupilAt_holds
end Go.Proofs.Ytcmgafgboepllaa
