/- At every argument the program's SplitCounts answers as the specification; nothing that was there is changed. -/
import Derived.Test.YtkkajcdjkfbcgaaSe2
import Derived.Test.YtkkajcdjkfbcgaaOp
import Derived.Handy
import Derived.Deep.RegionHeld3
import Derived.Deep.DeepCutAuto
namespace Go.Proofs.Ytkkajcdjkfbcgaa.LawSplitCounts
open Go.ChangeShapes Go.WideShapes Go.ChangeAt Go.RowKit Go.Joins
set_option linter.unusedVariables false

theorem split_both (n num m s : Int) : ∃ k x y z : Int, (∀ W, Calls Try.prog 25 #[.int .i64 n, .int .i64 num, .int .i64 m, .int .i64 s] W fun e w' => e = .returned (Kv k x y z) ∧ Below W.heap.size W w') ∧ (∀ W, Calls Try.prog 26 #[.int .i64 n, .int .i64 num, .int .i64 m, .int .i64 s] W fun e w' => e = .returned (Kv k x y z) ∧ Below W.heap.size W w') := by
  by_cases h : Sgood n num m s
  · obtain ⟨k, rfl⟩ := Int.eq_ofNat_of_zero_le h.n0
    exact ⟨0, _, _, _, fun W => split_s_good h W, fun W => split_i_good h W⟩
  · exact ⟨1, 0, 0, 0, fun W => split_s_bad n num m s h W, fun W => split_i_bad n num m s h W⟩
set_option maxRecDepth 20000 in
set_option maxHeartbeats 1600000 in
theorem eqCount_same (k x y z : Int) (w : World) : Calls Try.prog 27 #[.agg #[.int .i64 k, .int .i64 x, .int .i64 y, .int .i64 z], .agg #[.int .i64 k, .int .i64 x, .int .i64 y, .int .i64 z]] w fun e w' => e = .returned (.bool true) ∧ Below w.heap.size w w' := by
  go_enter Try.func27, Try.ntmps27
  go_wp2
  go_ret
  exact ⟨rfl, by go_grown⟩
set_option maxRecDepth 20000 in
set_option maxHeartbeats 1600000 in
theorem walk (n num m s : Int) (w : World) : Calls Try.prog 5 #[.int .i64 n, .int .i64 num, .int .i64 m, .int .i64 s] w fun e w' => e = .returned (.bool true) ∧ Below w.heap.size w w' := by
  obtain ⟨k, x, y, z, hS, hI⟩ := split_both n num m s
  have S1 : Hid (∀ W, Calls Try.prog 25 #[.int .i64 n, .int .i64 num, .int .i64 m, .int .i64 s] W fun e w' => e = .returned (Kv k x y z) ∧ Below W.heap.size W w') := hS
  have I1 : Hid (∀ W, Calls Try.prog 26 #[.int .i64 n, .int .i64 num, .int .i64 m, .int .i64 s] W fun e w' => e = .returned (Kv k x y z) ∧ Below W.heap.size W w') := hI
  clear hS hI
  go_enter Try.func5, Try.ntmps5
  go_wp2_with fail
  refine (S1.out _).mono ?_
  rintro e w1 ⟨rfl, b1⟩
  have HO : Hid (Below w.heap.size w w1) := b1
  clear b1
  go_upto_region 2 with fail
  have hbk : Blk (w1.alloc (.cells #[.int .i64 k, .int .i64 x, .int .i64 y, .int .i64 z] 52)) w1.heap.size #[.int .i64 k, .int .i64 x, .int .i64 y, .int .i64 z] 52 := Blk.new rfl
  have hO : Below w.heap.size w (w1.alloc (.cells #[.int .i64 k, .int .i64 x, .int .i64 y, .int .i64 z] 52)) := below_new HO.out _
  obtain ⟨w2, hw2⟩ : ∃ W, W = w1.alloc (.cells #[.int .i64 k, .int .i64 x, .int .i64 y, .int .i64 z] 52) := ⟨_, rfl⟩
  rw [← hw2] at hbk hO ⊢
  have HB : Hid (Blk w2 w1.heap.size #[.int .i64 k, .int .i64 x, .int .i64 y, .int .i64 z] 52) := hbk
  replace HO : Hid (Below w.heap.size w w2) := hO
  clear hbk hO hw2
  go_wp2_with fail
  refine (I1.out _).mono ?_
  rintro e w3 ⟨rfl, b1⟩
  replace HB : Hid (Blk w3 w1.heap.size #[.int .i64 k, .int .i64 x, .int .i64 y, .int .i64 z] 52) := HB.out.later b1
  replace HO : Hid (Below w.heap.size w w3) := HO.out.trans (b1.mono HO.out.size)
  clear b1
  go_upto_region 3 with fail
  have hbg : Blk (w3.alloc (.cells #[.int .i64 k, .int .i64 x, .int .i64 y, .int .i64 z] 52)) w3.heap.size #[.int .i64 k, .int .i64 x, .int .i64 y, .int .i64 z] 52 := Blk.new rfl
  have hbk : Blk (w3.alloc (.cells #[.int .i64 k, .int .i64 x, .int .i64 y, .int .i64 z] 52)) w1.heap.size #[.int .i64 k, .int .i64 x, .int .i64 y, .int .i64 z] 52 := HB.out.alloc _
  have hO : Below w.heap.size w (w3.alloc (.cells #[.int .i64 k, .int .i64 x, .int .i64 y, .int .i64 z] 52)) := below_new HO.out _
  obtain ⟨w4, hw4⟩ : ∃ W, W = w3.alloc (.cells #[.int .i64 k, .int .i64 x, .int .i64 y, .int .i64 z] 52) := ⟨_, rfl⟩
  rw [← hw4] at hbk hbg hO ⊢
  replace HO : Hid (Below w.heap.size w w4) := hO
  have c0 := hbk.cell (j := 0) (v := .int .i64 k) rfl
  have d0 := hbg.cell (j := 0) (v := .int .i64 k) rfl
  have c1 := hbk.cell (j := 1) (v := .int .i64 x) rfl
  have d1 := hbg.cell (j := 1) (v := .int .i64 x) rfl
  have c2 := hbk.cell (j := 2) (v := .int .i64 y) rfl
  have d2 := hbg.cell (j := 2) (v := .int .i64 y) rfl
  have c3 := hbk.cell (j := 3) (v := .int .i64 z) rfl
  have d3 := hbg.cell (j := 3) (v := .int .i64 z) rfl
  clear hbk hbg hO hw4 HB
  go_wp2_with fail
  refine (eqCount_same k x y z _).mono ?_
  rintro e w5 ⟨rfl, b1⟩
  replace HO : Hid (Below w.heap.size w w5) := HO.out.trans (b1.mono HO.out.size)
  clear b1
  go_wp2
  go_ret
  exact ⟨rfl, HO.out⟩

set_option maxRecDepth 100000 in
theorem lifted (os : Os) (started : os.Started) (H : Type) (enc : TypeId × Value → H) :
    ReturnsInHanded {} Try.checked os 5 .any (Rows.fnExactSplitCountsSpec.pre6 enc Try.prog Try.f5 Rows.fnExactSplitCountsRow.domain false) (Rows.fnExactSplitCountsSpec.post enc Try.prog Try.f5 false true false false) := by
  refine returnsInHanded_of_change (C := Try.checked) own started (by kernel_rfl) Try.func5
    (ChangeSpec.witness6 (enc := enc) (C := Try.checked) false ⟨#[], #[.int .i64 0, .int .i64 0, .int .i64 0, .int .i64 0], []⟩ 8 (by kernel_rfl) (by kernel_rfl) (by kernel_rfl) (by kernel_rfl)) ?_
  intro W base args ds gs before hval0 hW hcnd _
  have hval : ∀ (j : Nat) t v, Try.f5.params[j]? = some t → args[j]? = some v → Value.okWide Try.prog W .any base t v := hval0
  have hW' := hW
  obtain ⟨p, q, hA0, hV, rfl, hfz, hnd⟩ := hW
  have hA : DataW.TrodAll enc Try.prog W 0 (fun _ => true) true Try.f5.params.toList args.toList ds p := hA0
  rw [Try.params5] at hA hval
  obtain ⟨v0, vs0, d0, ds0, p0, q0, hargs, rfl, rfl, h0, r0⟩ := trodAll_cons hA
  obtain ⟨v1, vs1, d1, ds1, p1, q1, rfl, rfl, rfl, h1, r1⟩ := trodAll_cons r0
  obtain ⟨v2, vs2, d2, ds2, p2, q2, rfl, rfl, rfl, h2, r2⟩ := trodAll_cons r1
  obtain ⟨v3, vs3, d3, ds3, p3, q3, rfl, rfl, rfl, h3, r3⟩ := trodAll_cons r2
  obtain ⟨rfl, rfl, rfl⟩ := trodAll_nil r3
  obtain rfl : args = #[v0, v1, v2, v3] := by cases args; simp_all
  obtain ⟨rfl, rfl⟩ := trodVars_none hV
  have k0 := h0
  have lt0 : ∀ x ∈ p0, x.block < W.heap.size := by obtain ⟨m, hm⟩ := k0; exact DataW.trod_lt m _ _ _ hm
  obtain ⟨n0, rfl, _, _, w0⟩ := open_int Try.underlying2 (hval 0 2 v0 rfl rfl) h0
  have k1 := h1
  have lt1 : ∀ x ∈ p1, x.block < W.heap.size := by obtain ⟨m, hm⟩ := k1; exact DataW.trod_lt m _ _ _ hm
  obtain ⟨n1, rfl, _, _, w1⟩ := open_int Try.underlying2 (hval 1 2 v1 rfl rfl) h1
  have k2 := h2
  have lt2 : ∀ x ∈ p2, x.block < W.heap.size := by obtain ⟨m, hm⟩ := k2; exact DataW.trod_lt m _ _ _ hm
  obtain ⟨n2, rfl, _, _, w2⟩ := open_int Try.underlying2 (hval 2 2 v2 rfl rfl) h2
  have k3 := h3
  have lt3 : ∀ x ∈ p3, x.block < W.heap.size := by obtain ⟨m, hm⟩ := k3; exact DataW.trod_lt m _ _ _ hm
  obtain ⟨n3, rfl, _, _, w3⟩ := open_int Try.underlying2 (hval 3 2 v3 rfl rfl) h3
  clear hA0 hval0
  refine (walk n0 n1 n2 n3 W).mono fun e W' ⟨he, bel⟩ => ?_
  subst he
  exact ⟨_, rfl, _, _, _, [], _, [], hW', trodAll_mk1 (shut_bool Try.underlying4 _), (trodAll_cons_mk (Below.trod laidOut (by kernel_rfl) (of_decide_eq_true (by kernel_rfl)) k0 bel lt0) (trodAll_cons_mk (Below.trod laidOut (by kernel_rfl) (of_decide_eq_true (by kernel_rfl)) k1 bel lt1) (trodAll_cons_mk (Below.trod laidOut (by kernel_rfl) (of_decide_eq_true (by kernel_rfl)) k2 bel lt2) (trodAll_cons_mk (Below.trod laidOut (by kernel_rfl) (of_decide_eq_true (by kernel_rfl)) k3 bel lt3) trodAll_mk0)))), rfl, bel.frame _, fun h => by cases h⟩

theorem over : Rows.fnExactSplitCountsRow.holds Try.pinned (OpenSpec.ofChange Rows.fnExactSplitCountsSpec) :=
  OpenClaim.holds_of_wide 5 Try.f5 rfl rfl rfl rfl rfl rfl rfl ⟨rfl, rfl, rfl, rfl, rfl⟩ rfl rfl rfl rfl rfl (by kernel_rfl) Try.func5 (by kernel_rfl)
    (of_decide_eq_true (by kernel_rfl)) (by unfold Func.isWrapper; first | (rw [if_pos (by decide +kernel)]; kernel_rfl) | (rw [if_neg (by decide +kernel)]; exact ⟨rfl, rfl⟩))
    (fun os started H enc _ => lifted os started H enc)
end Go.Proofs.Ytkkajcdjkfbcgaa.LawSplitCounts
namespace Go.Proofs.Ytkkajcdjkfbcgaa
theorem splitCounts_holds : Rows.FnExactSplitCountsSaid := LawSplitCounts.over
#print axioms splitCounts_holds
end Go.Proofs.Ytkkajcdjkfbcgaa
