/- At every two fractions that come in, right or not, the program's CompareFrac answers the specification's number; nothing that was there is changed. -/
import Derived.Test.YtcniomijhflakaaOpen
import Derived.Test.YtcniomijhflakaaIo
import Derived.Handy
namespace Go.Proofs.Ytcniomijhflakaa.LawCompareFrac
open Go.ChangeShapes Go.WideShapes Go.ChangeAt Go.RowKit Go.Joins
set_option linter.unusedVariables false

/-- The two arguments' boxes. -/
theorem boxes {w : World} {a b c d : Value} {W : World} (h : Below (w.heap.size + 2) ((w.alloc (.cells #[a, b] 23)).alloc (.cells #[c, d] 23)) W) :
    W.cell? ⟨w.heap.size, 0, none⟩ = some a ∧ W.cell? ⟨w.heap.size, 1, none⟩ = some b ∧ W.cell? ⟨w.heap.size + 1, 0, none⟩ = some c ∧ W.cell? ⟨w.heap.size + 1, 1, none⟩ = some d := by
  have c0 := h.cell (p := ⟨w.heap.size, 0, none⟩) (by simp)
  have c1 := h.cell (p := ⟨w.heap.size, 1, none⟩) (by simp)
  have c2 := h.cell (p := ⟨w.heap.size + 1, 0, none⟩) (by simp)
  have c3 := h.cell (p := ⟨w.heap.size + 1, 1, none⟩) (by simp)
  simp at c0 c1 c2 c3
  exact ⟨c0, c1, c2, c3⟩
set_option maxHeartbeats 400000 in
theorem walk (a b c d : Int) (w : World) :
    Calls Try.prog 7 #[.agg #[.int .i64 a, .int .i64 b], .agg #[.int .i64 c, .int .i64 d]] w fun e w' => e = .returned (.bool true) ∧ Below w.heap.size w w' := by
  have k0 : ∀ x : Kept (w.heap.size + 2) ((w.alloc (.cells #[.int .i64 a, .int .i64 b] 23)).alloc (.cells #[.int .i64 c, .int .i64 d] 23)), x.w.cell? ⟨w.heap.size, 0, none⟩ = some (.int .i64 a) := fun x => (boxes x.h).1
  have k1 : ∀ x : Kept (w.heap.size + 2) ((w.alloc (.cells #[.int .i64 a, .int .i64 b] 23)).alloc (.cells #[.int .i64 c, .int .i64 d] 23)), x.w.cell? ⟨w.heap.size, 1, none⟩ = some (.int .i64 b) := fun x => (boxes x.h).2.1
  have k2 : ∀ x : Kept (w.heap.size + 2) ((w.alloc (.cells #[.int .i64 a, .int .i64 b] 23)).alloc (.cells #[.int .i64 c, .int .i64 d] 23)), x.w.cell? ⟨w.heap.size + 1, 0, none⟩ = some (.int .i64 c) := fun x => (boxes x.h).2.2.1
  have k3 : ∀ x : Kept (w.heap.size + 2) ((w.alloc (.cells #[.int .i64 a, .int .i64 b] 23)).alloc (.cells #[.int .i64 c, .int .i64 d] 23)), x.w.cell? ⟨w.heap.size + 1, 1, none⟩ = some (.int .i64 d) := fun x => (boxes x.h).2.2.2
  go_enter Try.func7, Try.ntmps7
  go_wp2_with fail
  refine wp_region_kept (w.heap.size + 2) (by kernel_rfl) (by kernel_rfl) ?_
  intro hne
  repeat (go_big_quiet_step (first | (go_at_call 9; exact Calls.kept_of (by simp) (toFrac_any _ _ _)) | (go_at_call 18; exact Calls.kept_of (by simp) (scmp _ _ _ _ _))))
  refine wpQuiet_nil ?_
  rintro w1 ⟨x1, hx1⟩
  have hb1 := x1.h
  rw [← hx1] at hb1
  clear k0 k1 k2 k3 hx1 x1
  obtain ⟨c0, c1, c2, c3⟩ := boxes hb1
  have H1 : Hid (Below w.heap.size w w1) := by
    refine Below.trans ?_ (hb1.mono (by omega))
    go_grown
  have hz : w.heap.size + 2 ≤ w1.heap.size := by have := hb1.size; simp at this; omega
  have k0 : ∀ x : Kept (w.heap.size + 2) w1, x.w.cell? ⟨w.heap.size, 0, none⟩ = some (.int .i64 a) := fun x => x.cell (by simp) c0
  have k1 : ∀ x : Kept (w.heap.size + 2) w1, x.w.cell? ⟨w.heap.size, 1, none⟩ = some (.int .i64 b) := fun x => x.cell (by simp) c1
  have k2 : ∀ x : Kept (w.heap.size + 2) w1, x.w.cell? ⟨w.heap.size + 1, 0, none⟩ = some (.int .i64 c) := fun x => x.cell (by simp) c2
  have k3 : ∀ x : Kept (w.heap.size + 2) w1, x.w.cell? ⟨w.heap.size + 1, 1, none⟩ = some (.int .i64 d) := fun x => x.cell (by simp) c3
  clear hb1
  go_wp2_with fail
  refine wp_region_kept (w.heap.size + 2) (by kernel_rfl) (by kernel_rfl) ?_
  intro hne
  repeat (go_big_quiet_step (first | (go_at_call 9; exact Calls.kept_of hz (toFrac_any _ _ _)) | (go_at_call 19; exact Calls.kept_of hz (icmp _ _ _ _ _))))
  refine wpQuiet_nil ?_
  rintro w2 ⟨x2, hx2⟩
  have hb2 := x2.h
  rw [← hx2] at hb2
  clear k0 k1 k2 k3 hx2 x2
  have H2 : Below w.heap.size w w2 := H1.out.trans (hb2.mono (by omega))
  clear hb2
  go_wp2
  go_ret
  exact ⟨rfl, H2⟩

set_option maxRecDepth 100000 in
theorem lifted (os : Os) (started : os.Started) (H : Type) (enc : TypeId × Value → H) :
    ReturnsInHanded {} Try.checked os 7 .any (Rows.fnExactCompareFracSpec.pre6 enc Try.prog Try.f7 Rows.fnExactCompareFracRow.domain false) (Rows.fnExactCompareFracSpec.post enc Try.prog Try.f7 false true false false) := by
  refine returnsInHanded_of_change (C := Try.checked) own started (by kernel_rfl) Try.func7
    (ChangeSpec.witness6 (enc := enc) (C := Try.checked) false ⟨#[], #[.agg #[.int .i64 0, .int .i64 0], .agg #[.int .i64 0, .int .i64 0]], []⟩ 8 (by kernel_rfl) (by kernel_rfl) (by kernel_rfl) (by kernel_rfl)) ?_
  intro W base args ds gs before hval0 hW hcnd _
  have hval : ∀ (j : Nat) t v, Try.f7.params[j]? = some t → args[j]? = some v → Value.okWide Try.prog W .any base t v := hval0
  have hW' := hW
  obtain ⟨p, q, hA0, hV, rfl, hfz, hnd⟩ := hW
  have hA : DataW.TrodAll enc Try.prog W 0 (fun _ => true) true Try.f7.params.toList args.toList ds p := hA0
  rw [Try.params7] at hA hval
  obtain ⟨v0, vs0, d0, ds0, p0, q0, hargs, rfl, rfl, h0, r0⟩ := trodAll_cons hA
  obtain ⟨v1, vs1, d1, ds1, p1, q1, rfl, rfl, rfl, h1, r1⟩ := trodAll_cons r0
  obtain ⟨rfl, rfl, rfl⟩ := trodAll_nil r1
  obtain rfl : args = #[v0, v1] := by cases args; simp_all
  obtain ⟨rfl, rfl⟩ := trodVars_none hV
  have k0 := h0
  have lt0 : ∀ x ∈ p0, x.block < W.heap.size := by obtain ⟨m, hm⟩ := k0; exact DataW.trod_lt m _ _ _ hm
  obtain ⟨n0, m0, rfl, _, _⟩ := open_frac (hval 0 23 v0 rfl rfl) h0
  have k1 := h1
  have lt1 : ∀ x ∈ p1, x.block < W.heap.size := by obtain ⟨m, hm⟩ := k1; exact DataW.trod_lt m _ _ _ hm
  obtain ⟨n1, m1, rfl, _, _⟩ := open_frac (hval 1 23 v1 rfl rfl) h1
  clear hA0 hval0
  refine (walk n0 m0 n1 m1 W).mono fun e W' ⟨he, bel⟩ => ?_
  subst he
  exact ⟨_, rfl, _, _, _, [], _, [], hW', trodAll_mk1 (shut_bool Try.underlying4 _), (trodAll_cons_mk (Below.trod laidOut (by kernel_rfl) (of_decide_eq_true (by kernel_rfl)) k0 bel lt0) (trodAll_cons_mk (Below.trod laidOut (by kernel_rfl) (of_decide_eq_true (by kernel_rfl)) k1 bel lt1) trodAll_mk0)), rfl, bel.frame _, fun h => by cases h⟩

theorem over : Rows.fnExactCompareFracRow.holds Try.pinned (OpenSpec.ofChange Rows.fnExactCompareFracSpec) :=
  OpenClaim.holds_of_wide 7 Try.f7 rfl rfl rfl rfl rfl rfl rfl ⟨rfl, rfl, rfl, rfl, rfl⟩ rfl rfl rfl rfl rfl (by kernel_rfl) Try.func7 (by kernel_rfl)
    (of_decide_eq_true (by kernel_rfl)) (by unfold Func.isWrapper; first | (rw [if_pos (by decide +kernel)]; kernel_rfl) | (rw [if_neg (by decide +kernel)]; exact ⟨rfl, rfl⟩))
    (fun os started H enc _ => lifted os started H enc)
end Go.Proofs.Ytcniomijhflakaa.LawCompareFrac
namespace Go.Proofs.Ytcniomijhflakaa
theorem compareFrac_holds : Rows.FnExactCompareFracSaid := LawCompareFrac.over
#print axioms compareFrac_holds
end Go.Proofs.Ytcniomijhflakaa
