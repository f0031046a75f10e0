/- At every index and phase the program's ModFilm answers as the specification, number by number; nothing that was there is changed. -/
import Derived.Test.YtigkfngbiicfaaaOpen
import Derived.Test.YtigkfngbiicfaaaPl
import Derived.Handy
namespace Go.Proofs.Ytigkfngbiicfaaa.LawModFilm
open Go.ChangeShapes Go.WideShapes Go.ChangeAt Go.RowKit Go.Joins
set_option linter.unusedVariables false

set_option maxHeartbeats 2000000 in
theorem walk (x ph : Int) (w : World) : Calls Try.prog 7 #[.int .i64 x, .int .i64 ph] w fun e w' => e = .returned (.bool true) ∧ Below w.heap.size w w' := by
  obtain ⟨a, b, c, d, hF⟩ := film_form x ph
  have S : Hid (∀ w, Calls Try.prog 24 #[.int .i64 x, .int .i64 ph] w fun e w' => e = .returned (.agg #[.int .i64 a, .int .i64 b, .int .i64 c, .int .i64 d]) ∧ Below w.heap.size w w') := fun w => by rw [← hF]; exact sFilm_any x ph w
  have I : Hid (∀ w, Calls Try.prog 25 #[.int .i64 x, .int .i64 ph] w fun e w' => e = .returned (.agg #[.int .i64 a, .int .i64 b, .int .i64 c, .int .i64 d]) ∧ Below w.heap.size w w') := fun w => by rw [← hF]; exact iFilm_any x ph w
  clear hF
  go_enter Try.func7, Try.ntmps7
  go_wp2_with fail
  refine (S.out _).mono ?_
  rintro e w1 ⟨rfl, b1⟩
  go_wp2_with fail
  obtain ⟨w2, hw2⟩ : ∃ W, W = w1.alloc (.cells #[.int .i64 a, .int .i64 b, .int .i64 c, .int .i64 d] 34) := ⟨_, rfl⟩
  rw [← hw2]
  have B2 : Hid (w2.heap[w1.heap.size]? = some (.cells #[.int .i64 a, .int .i64 b, .int .i64 c, .int .i64 d] 34 (0, 0)) ∧ Below w.heap.size w w2 ∧ w1.heap.size < w2.heap.size) := by
    rw [hw2]; exact ⟨heap_alloc_new _ _, b1.alloc b1.size _, by simp⟩
  clear b1 hw2
  refine (I.out _).mono ?_
  rintro e w3 ⟨rfl, b3⟩
  have hb : w3.heap[w1.heap.size]? = some (.cells #[.int .i64 a, .int .i64 b, .int .i64 c, .int .i64 d] 34 (0, 0)) := (b3.block _ B2.out.2.2).trans B2.out.1
  have B3 : Hid (Below w.heap.size w w3) := B2.out.2.1.trans (b3.mono B2.out.2.1.size)
  have hlt : w1.heap.size < w3.heap.size := Nat.lt_of_lt_of_le B2.out.2.2 b3.size
  clear b3 B2
  obtain ⟨w4, hw4⟩ : ∃ W, W = w3.alloc (.cells #[.int .i64 a, .int .i64 b, .int .i64 c, .int .i64 d] 34) := ⟨_, rfl⟩
  have H4 : Hid (w4 = w3.alloc (.cells #[.int .i64 a, .int .i64 b, .int .i64 c, .int .i64 d] 34)) := hw4
  have hb4 : (w3.alloc (.cells #[.int .i64 a, .int .i64 b, .int .i64 c, .int .i64 d] 34)).heap[w1.heap.size]? = some (.cells #[.int .i64 a, .int .i64 b, .int .i64 c, .int .i64 d] 34 (0, 0)) := (Below.heap_alloc _ _ _ hlt).trans hb
  have c0 : (w3.alloc (.cells #[.int .i64 a, .int .i64 b, .int .i64 c, .int .i64 d] 34)).cell? ⟨w1.heap.size, 0, none⟩ = some (.int .i64 a) := by simp [World.cell?, hb4]
  have c1 : (w3.alloc (.cells #[.int .i64 a, .int .i64 b, .int .i64 c, .int .i64 d] 34)).cell? ⟨w1.heap.size, 1, none⟩ = some (.int .i64 b) := by simp [World.cell?, hb4]
  have c2 : (w3.alloc (.cells #[.int .i64 a, .int .i64 b, .int .i64 c, .int .i64 d] 34)).cell? ⟨w1.heap.size, 2, none⟩ = some (.int .i64 c) := by simp [World.cell?, hb4]
  have c3 : (w3.alloc (.cells #[.int .i64 a, .int .i64 b, .int .i64 c, .int .i64 d] 34)).cell? ⟨w1.heap.size, 3, none⟩ = some (.int .i64 d) := by simp [World.cell?, hb4]
  clear hb hb4 hlt hw4
  go_wp2_with fail
  refine (eqPlate_same a b c d _).mono ?_
  rintro e w5 ⟨rfl, b5⟩
  have B5 : Hid (Below w.heap.size w w5) := (B3.out.alloc B3.out.size _).trans (b5.mono (by have := B3.out.size; simp; omega))
  clear b5 c0 c1 c2 c3
  go_wp2
  go_ret
  exact ⟨rfl, B5.out⟩

set_option maxRecDepth 100000 in
theorem lifted (os : Os) (started : os.Started) (H : Type) (enc : TypeId × Value → H) :
    ReturnsInHanded {} Try.checked os 7 .any (Rows.fnExactModFilmSpec.pre6 enc Try.prog Try.f7 Rows.fnExactModFilmRow.domain false) (Rows.fnExactModFilmSpec.post enc Try.prog Try.f7 false true false false) := by
  refine returnsInHanded_of_change (C := Try.checked) own started (by kernel_rfl) Try.func7
    (ChangeSpec.witness6 (enc := enc) (C := Try.checked) false ⟨#[], #[.int .i64 0, .int .i64 0], []⟩ 8 (by kernel_rfl) (by kernel_rfl) (by kernel_rfl) (by kernel_rfl)) ?_
  intro W base args ds gs before hval0 hW hcnd _
  have hval : ∀ (j : Nat) t v, Try.f7.params[j]? = some t → args[j]? = some v → Value.okWide Try.prog W .any base t v := hval0
  have hW' := hW
  obtain ⟨p, q, hA0, hV, rfl, hfz, hnd⟩ := hW
  have hA : DataW.TrodAll enc Try.prog W 0 (fun _ => true) true Try.f7.params.toList args.toList ds p := hA0
  rw [Try.params7] at hA hval
  obtain ⟨v0, vs0, d0, ds0, p0, q0, hargs, rfl, rfl, h0, r0⟩ := trodAll_cons hA
  obtain ⟨v1, vs1, d1, ds1, p1, q1, rfl, rfl, rfl, h1, r1⟩ := trodAll_cons r0
  obtain ⟨rfl, rfl, rfl⟩ := trodAll_nil r1
  obtain rfl : args = #[v0, v1] := by cases args; simp_all
  obtain ⟨rfl, rfl⟩ := trodVars_none hV
  have k0 := h0
  have lt0 : ∀ x ∈ p0, x.block < W.heap.size := by obtain ⟨m, hm⟩ := k0; exact DataW.trod_lt m _ _ _ hm
  obtain ⟨n0, rfl, _, _, w0⟩ := open_int Try.underlying2 (hval 0 2 v0 rfl rfl) h0
  have k1 := h1
  have lt1 : ∀ x ∈ p1, x.block < W.heap.size := by obtain ⟨m, hm⟩ := k1; exact DataW.trod_lt m _ _ _ hm
  obtain ⟨n1, rfl, _, _, w1⟩ := open_int Try.underlying2 (hval 1 2 v1 rfl rfl) h1
  clear hA0 hval0
  refine (walk n0 n1 W ).mono fun e W' ⟨he, bel⟩ => ?_
  subst he
  exact ⟨_, rfl, _, _, _, [], _, [], hW', trodAll_mk1 (shut_bool Try.underlying4 _), (trodAll_cons_mk (Below.trod laidOut (by kernel_rfl) (of_decide_eq_true (by kernel_rfl)) k0 bel lt0) (trodAll_cons_mk (Below.trod laidOut (by kernel_rfl) (of_decide_eq_true (by kernel_rfl)) k1 bel lt1) trodAll_mk0)), rfl, bel.frame _, fun h => by cases h⟩

theorem over : Rows.fnExactModFilmRow.holds Try.pinned (OpenSpec.ofChange Rows.fnExactModFilmSpec) :=
  OpenClaim.holds_of_wide 7 Try.f7 rfl rfl rfl rfl rfl rfl rfl ⟨rfl, rfl, rfl, rfl, rfl⟩ rfl rfl rfl rfl rfl (by kernel_rfl) Try.func7 (by kernel_rfl)
    (of_decide_eq_true (by kernel_rfl)) (by unfold Func.isWrapper; first | (rw [if_pos (by decide +kernel)]; kernel_rfl) | (rw [if_neg (by decide +kernel)]; exact ⟨rfl, rfl⟩))
    (fun os started H enc _ => lifted os started H enc)
end Go.Proofs.Ytigkfngbiicfaaa.LawModFilm
namespace Go.Proofs.Ytigkfngbiicfaaa
theorem modFilm_holds : Rows.FnExactModFilmSaid := LawModFilm.over
#print axioms modFilm_holds
end Go.Proofs.Ytigkfngbiicfaaa
