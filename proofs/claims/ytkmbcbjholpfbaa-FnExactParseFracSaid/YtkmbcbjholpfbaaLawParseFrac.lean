/- At every text, whatever its bytes and its length, the program's ParseFrac answers as the specification, field by field; nothing that was there is changed. -/
import Derived.Test.YtkmbcbjholpfbaaOpen
import Derived.Test.YtkmbcbjholpfbaaSame
import Derived.Handy
namespace Go.Proofs.Ytkmbcbjholpfbaa.LawParseFrac
open Go.ChangeShapes Go.WideShapes Go.ChangeAt Go.RowKit Go.Joins
set_option linter.unusedVariables false

set_option maxHeartbeats 400000 in
theorem eqText_same (c a n d : Int) (w : World) :
    Calls Try.prog 32 #[.agg #[.int .i64 c, .int .i64 a, .int .i64 n, .int .i64 d], .agg #[.int .i64 c, .int .i64 a, .int .i64 n, .int .i64 d]] w fun e w' => e = .returned (.bool true) ∧ Below w.heap.size w w' := by
  go_enter Try.func32, Try.ntmps32
  go_wp2_with fail
  refine (eqFrac_same n d _).mono ?_
  rintro e w1 ⟨rfl, hb1⟩
  have H1 : Below w.heap.size w w1 := by refine box_step ?_ hb1 (by simp); go_grown
  clear hb1
  go_wp2
  go_ret
  exact ⟨rfl, H1⟩
set_option maxHeartbeats 400000 in
theorem walk_long (s : ByteArray) (w : World) (hs : s.size ≤ maxLen) (h : 1048576 < s.size) :
    Calls Try.prog 11 #[.string s] w fun e w' => e = .returned (.bool true) ∧ Below w.heap.size w w' := by
  unfold maxLen at hs
  have hI : (1048576 : Int) < (s.size : Int) := by omega
  go_enter Try.func11, Try.ntmps11
  go_wp2
  go_ret
  exact ⟨rfl, Below.refl _ _⟩
set_option maxHeartbeats 400000 in
theorem walk_short (s : ByteArray) (w : World) (h : s.size ≤ 1048576) :
    Calls Try.prog 11 #[.string s] w fun e w' => e = .returned (.bool true) ∧ Below w.heap.size w w' := by
  obtain ⟨c, a, n, d, hS, hI⟩ := same_all s h
  have HS : Hid (∀ w : World, Calls Try.prog 30 #[.string s] w fun e w' => e = .returned (.agg #[.int .i64 c, .int .i64 a, .int .i64 n, .int .i64 d]) ∧ Below w.heap.size w w') := hS
  have HI : Hid (∀ w : World, Calls Try.prog 31 #[.string s] w fun e w' => e = .returned (.agg #[.int .i64 c, .int .i64 a, .int .i64 n, .int .i64 d]) ∧ Below w.heap.size w w') := hI
  clear hS hI
  have hI : (s.size : Int) ≤ 1048576 := by omega
  go_enter Try.func11, Try.ntmps11
  go_wp2_with fail
  refine (HS.out _).mono ?_
  rintro e w1 ⟨rfl, hb1⟩
  have H1 : Hid (Below w.heap.size w w1) := hb1
  clear hb1
  go_wp2_with fail
  refine (HI.out _).mono ?_
  rintro e w2 ⟨rfl, hb2⟩
  have hX : Below (w1.heap.size + 1) (w1.alloc (.cells #[.int .i64 c, .int .i64 a, .int .i64 n, .int .i64 d] 37)) w2 := hb2.mono (by simp)
  have H2 : Hid (Below w.heap.size w w2) := box_step H1.out (box_out hX) (Nat.le_refl _)
  obtain ⟨c0, c1, c2, c3, _, _, _, _, hz⟩ := box4 hX
  clear hb2 hX H1
  go_wp2_with fail
  refine (eqText_same _ _ _ _ _).mono ?_
  rintro e w3 ⟨rfl, hb3⟩
  have H3 : Below w.heap.size w w3 := by
    have h2 := H2.out
    have hs := h2.size
    refine box_step ?_ hb3 (Nat.le_refl _)
    go_grown
  clear hb3 H2
  go_wp2
  go_ret
  exact ⟨rfl, H3⟩
theorem walk (s : ByteArray) (w : World) (hs : s.size ≤ maxLen) :
    Calls Try.prog 11 #[.string s] w fun e w' => e = .returned (.bool true) ∧ Below w.heap.size w w' := by
  by_cases h : 1048576 < s.size
  · exact walk_long s w hs h
  · exact walk_short s w (by omega)

set_option maxRecDepth 100000 in
theorem lifted (os : Os) (started : os.Started) (H : Type) (enc : TypeId × Value → H) :
    ReturnsInHanded {} Try.checked os 11 .any (Rows.fnExactParseFracSpec.pre6 enc Try.prog Try.f11 Rows.fnExactParseFracRow.domain false) (Rows.fnExactParseFracSpec.post enc Try.prog Try.f11 false true false false) := by
  refine returnsInHanded_of_change (C := Try.checked) own started (by kernel_rfl) Try.func11
    (ChangeSpec.witness6 (enc := enc) (C := Try.checked) false ⟨#[], #[.string ByteArray.empty], []⟩ 8 (by kernel_rfl) (by kernel_rfl) (by kernel_rfl) (by kernel_rfl)) ?_
  intro W base args ds gs before hval0 hW hcnd _
  have hval : ∀ (j : Nat) t v, Try.f11.params[j]? = some t → args[j]? = some v → Value.okWide Try.prog W .any base t v := hval0
  have hW' := hW
  obtain ⟨p, q, hA0, hV, rfl, hfz, hnd⟩ := hW
  have hA : DataW.TrodAll enc Try.prog W 0 (fun _ => true) true Try.f11.params.toList args.toList ds p := hA0
  rw [Try.params11] at hA hval
  obtain ⟨v0, vs0, d0, ds0, p0, q0, hargs, rfl, rfl, h0, r0⟩ := trodAll_cons hA
  obtain ⟨rfl, rfl, rfl⟩ := trodAll_nil r0
  obtain rfl : args = #[v0] := by cases args; simp_all
  obtain ⟨rfl, rfl⟩ := trodVars_none hV
  have k0 := h0
  have lt0 : ∀ x ∈ p0, x.block < W.heap.size := by obtain ⟨m, hm⟩ := k0; exact DataW.trod_lt m _ _ _ hm
  obtain ⟨n0, rfl, _, _, w0⟩ := Go.ChangeMaps.open_string Try.underlying9 (hval 0 9 v0 rfl rfl) h0
  clear hA0 hval0
  refine (walk n0 W w0).mono fun e W' ⟨he, bel⟩ => ?_
  subst he
  exact ⟨_, rfl, _, _, _, [], _, [], hW', trodAll_mk1 (shut_bool Try.underlying4 _), (trodAll_cons_mk (Below.trod laidOut (by kernel_rfl) (of_decide_eq_true (by kernel_rfl)) k0 bel lt0) trodAll_mk0), rfl, bel.frame _, fun h => by cases h⟩

theorem over : Rows.fnExactParseFracRow.holds Try.pinned (OpenSpec.ofChange Rows.fnExactParseFracSpec) :=
  OpenClaim.holds_of_wide 11 Try.f11 rfl rfl rfl rfl rfl rfl rfl ⟨rfl, rfl, rfl, rfl, rfl⟩ rfl rfl rfl rfl rfl (by kernel_rfl) Try.func11 (by kernel_rfl)
    (of_decide_eq_true (by kernel_rfl)) (by unfold Func.isWrapper; first | (rw [if_pos (by decide +kernel)]; kernel_rfl) | (rw [if_neg (by decide +kernel)]; exact ⟨rfl, rfl⟩))
    (fun os started H enc _ => lifted os started H enc)
end Go.Proofs.Ytkmbcbjholpfbaa.LawParseFrac
namespace Go.Proofs.Ytkmbcbjholpfbaa
theorem parseFrac_holds : Rows.FnExactParseFracSaid := LawParseFrac.over
#print axioms parseFrac_holds
end Go.Proofs.Ytkmbcbjholpfbaa
