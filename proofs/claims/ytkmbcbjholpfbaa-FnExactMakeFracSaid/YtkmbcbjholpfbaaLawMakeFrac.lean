/- At every two numbers the program's MakeFrac answers as the specification, field by field; nothing that was there is changed. -/
import Derived.Test.YtkmbcbjholpfbaaOpen
import Derived.Test.YtkmbcbjholpfbaaMake
import Derived.Handy
namespace Go.Proofs.Ytkmbcbjholpfbaa.LawMakeFrac
open Go.ChangeShapes Go.WideShapes Go.ChangeAt Go.RowKit Go.Joins
set_option linter.unusedVariables false

set_option maxHeartbeats 400000 in
theorem walk (n d : Int) (w : World) :
    Calls Try.prog 4 #[.int .i64 n, .int .i64 d] w fun e w' => e = .returned (.bool true) ∧ Below w.heap.size w w' := by
  go_enter Try.func4, Try.ntmps4
  go_wp2_with fail
  refine (smake n d _).mono ?_
  rintro e w1 ⟨rfl, hb1⟩
  have H1 : Hid (Below w.heap.size w w1) := hb1
  clear hb1
  go_wp2_with fail
  refine (imake n d _).mono ?_
  rintro e w2 ⟨rfl, hb2⟩
  have hX : Below (w1.heap.size + 1) (w1.alloc (.cells #[.int .i64 (mkC n d), .int .i64 (mkN n d), .int .i64 (mkD n d)] 29)) w2 := hb2.mono (by simp)
  have H2 : Hid (Below w.heap.size w w2) := box_step H1.out (box_out hX) (Nat.le_refl _)
  obtain ⟨c0, c1, c2, _, _, _, hz⟩ := box3 hX
  clear hb2 hX H1
  go_wp2_with fail
  refine (eqRes_same _ _ _ _).mono ?_
  rintro e w3 ⟨rfl, hb3⟩
  have H3 : Below w.heap.size w w3 := by
    have h2 := H2.out
    have hs := h2.size
    refine box_step ?_ hb3 (Nat.le_refl _)
    go_grown
  clear hb3 H2
  go_wp2
  go_ret
  exact ⟨rfl, H3⟩

set_option maxRecDepth 100000 in
theorem lifted (os : Os) (started : os.Started) (H : Type) (enc : TypeId × Value → H) :
    ReturnsInHanded {} Try.checked os 4 .any (Rows.fnExactMakeFracSpec.pre6 enc Try.prog Try.f4 Rows.fnExactMakeFracRow.domain false) (Rows.fnExactMakeFracSpec.post enc Try.prog Try.f4 false true false false) := by
  refine returnsInHanded_of_change (C := Try.checked) own started (by kernel_rfl) Try.func4
    (ChangeSpec.witness6 (enc := enc) (C := Try.checked) false ⟨#[], #[.int .i64 0, .int .i64 0], []⟩ 8 (by kernel_rfl) (by kernel_rfl) (by kernel_rfl) (by kernel_rfl)) ?_
  intro W base args ds gs before hval0 hW hcnd _
  have hval : ∀ (j : Nat) t v, Try.f4.params[j]? = some t → args[j]? = some v → Value.okWide Try.prog W .any base t v := hval0
  have hW' := hW
  obtain ⟨p, q, hA0, hV, rfl, hfz, hnd⟩ := hW
  have hA : DataW.TrodAll enc Try.prog W 0 (fun _ => true) true Try.f4.params.toList args.toList ds p := hA0
  rw [Try.params4] at hA hval
  obtain ⟨v0, vs0, d0, ds0, p0, q0, hargs, rfl, rfl, h0, r0⟩ := trodAll_cons hA
  obtain ⟨v1, vs1, d1, ds1, p1, q1, rfl, rfl, rfl, h1, r1⟩ := trodAll_cons r0
  obtain ⟨rfl, rfl, rfl⟩ := trodAll_nil r1
  obtain rfl : args = #[v0, v1] := by cases args; simp_all
  obtain ⟨rfl, rfl⟩ := trodVars_none hV
  have k0 := h0
  have lt0 : ∀ x ∈ p0, x.block < W.heap.size := by obtain ⟨m, hm⟩ := k0; exact DataW.trod_lt m _ _ _ hm
  obtain ⟨n0, rfl, _, _, w0⟩ := open_int Try.underlying2 (hval 0 2 v0 rfl rfl) h0
  have k1 := h1
  have lt1 : ∀ x ∈ p1, x.block < W.heap.size := by obtain ⟨m, hm⟩ := k1; exact DataW.trod_lt m _ _ _ hm
  obtain ⟨n1, rfl, _, _, w1⟩ := open_int Try.underlying2 (hval 1 2 v1 rfl rfl) h1
  clear hA0 hval0
  refine (walk n0 n1 W ).mono fun e W' ⟨he, bel⟩ => ?_
  subst he
  exact ⟨_, rfl, _, _, _, [], _, [], hW', trodAll_mk1 (shut_bool Try.underlying4 _), (trodAll_cons_mk (Below.trod laidOut (by kernel_rfl) (of_decide_eq_true (by kernel_rfl)) k0 bel lt0) (trodAll_cons_mk (Below.trod laidOut (by kernel_rfl) (of_decide_eq_true (by kernel_rfl)) k1 bel lt1) trodAll_mk0)), rfl, bel.frame _, fun h => by cases h⟩

theorem over : Rows.fnExactMakeFracRow.holds Try.pinned (OpenSpec.ofChange Rows.fnExactMakeFracSpec) :=
  OpenClaim.holds_of_wide 4 Try.f4 rfl rfl rfl rfl rfl rfl rfl ⟨rfl, rfl, rfl, rfl, rfl⟩ rfl rfl rfl rfl rfl (by kernel_rfl) Try.func4 (by kernel_rfl)
    (of_decide_eq_true (by kernel_rfl)) (by unfold Func.isWrapper; first | (rw [if_pos (by decide +kernel)]; kernel_rfl) | (rw [if_neg (by decide +kernel)]; exact ⟨rfl, rfl⟩))
    (fun os started H enc _ => lifted os started H enc)
end Go.Proofs.Ytkmbcbjholpfbaa.LawMakeFrac
namespace Go.Proofs.Ytkmbcbjholpfbaa
theorem makeFrac_holds : Rows.FnExactMakeFracSaid := LawMakeFrac.over
#print axioms makeFrac_holds
end Go.Proofs.Ytkmbcbjholpfbaa
