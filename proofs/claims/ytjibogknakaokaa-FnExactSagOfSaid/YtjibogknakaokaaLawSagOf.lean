/- At every face and point the program's SagOf answers the code, sag and root that the specification tells, float by float, all NaNs being one; nothing that was there is changed. -/
import Derived.Test.YtjibogknakaokaaOp
import Derived.Test.YtjibogknakaokaaSi
import Derived.Test.YtjibogknakaokaaEq
import Derived.Handy
import Derived.Deep.RegionHeld3
import Derived.Deep.DeepCutAuto
namespace Go.Proofs.Ytjibogknakaokaa.LawSagOf
open Go.ChangeShapes Go.WideShapes Go.ChangeAt Go.RowKit Go.Joins Fl
set_option linter.unusedVariables false

set_option maxRecDepth 100000 in
set_option maxHeartbeats 6400000 in
theorem walk {g : Nat → Nat} {G : Nat → Option Nat} {x y : Nat} {X Y : Option Nat} (hg : Gc g G) (hx : Fc x X) (hy : Fc y Y) (w : World) : Calls Try.prog 6 #[Gv g, .float .f64 x, .float .f64 y] w fun e w' => e = .returned (.bool true) ∧ Below w.heap.size w w' := by
  have H : Hid (Gc g G ∧ Fc x X ∧ Fc y Y) := ⟨hg, hx, hy⟩
  clear hg hx hy
  have hst := st64
  go_enter Try.func6, Try.ntmps6
  have HO : Hid (Below w.heap.size w w) := Below.refl _ _
  go_upto_region 1 with fail
  obtain ⟨v1, hv⟩ : ∃ Xw, Xw = (w.alloc (.cells #[.float .f64 (g 0), .float .f64 (g 1), .float .f64 (g 2), .float .f64 (g 3), .float .f64 (g 4)] 53)) := ⟨_, rfl⟩
  rw [← hv]
  have B_a : Hid (Blk v1 (w.heap.size) #[.float .f64 (g 0), .float .f64 (g 1), .float .f64 (g 2), .float .f64 (g 3), .float .f64 (g 4)] 53) := by show Blk v1 (w.heap.size) _ _; rw [hv]; exact (Blk.new (by simp))
  have low_a : Hid (w.heap.size ≤ w.heap.size) := by show w.heap.size ≤ w.heap.size; have := HO.out.size; omega
  replace HO : Hid (Below w.heap.size w v1) := by show Below w.heap.size w v1; rw [hv]; exact (below_new HO.out _)
  clear hv
  have a_0 := B_a.out.cell (j := 0) rfl
  have a_1 := B_a.out.cell (j := 1) rfl
  have a_2 := B_a.out.cell (j := 2) rfl
  have a_3 := B_a.out.cell (j := 3) rfl
  have a_4 := B_a.out.cell (j := 4) rfl
  have a_f := B_a.out.frozen
  have a_z := B_a.out.lt
  go_wp2_with fail
  refine (toFace_any _ _).mono ?_
  rintro e v2 ⟨rfl, hb⟩
  clear a_0 a_1 a_2 a_3 a_4 a_f a_z
  replace B_a : Hid (Blk v2 (w.heap.size) #[.float .f64 (g 0), .float .f64 (g 1), .float .f64 (g 2), .float .f64 (g 3), .float .f64 (g 4)] 53) := by show Blk v2 (w.heap.size) _ _; exact Blk.old B_a.out hb
  replace HO : Hid (Below w.heap.size w v2) := box_step HO.out hb (Nat.le_refl _)
  clear hb
  go_wp2_with fail
  refine (sSag_any H.out.1 H.out.2.1 H.out.2.2 _).mono ?_
  rintro e v3 ⟨ss, us, rfl, hs, hb⟩
  replace B_a : Hid (Blk v3 (w.heap.size) #[.float .f64 (g 0), .float .f64 (g 1), .float .f64 (g 2), .float .f64 (g 3), .float .f64 (g 4)] 53) := by show Blk v3 (w.heap.size) _ _; exact Blk.old B_a.out hb
  replace HO : Hid (Below w.heap.size w v3) := box_step HO.out hb (Nat.le_refl _)
  clear hb
  replace hs : Hid _ := hs
  go_upto_region 2 with fail
  obtain ⟨v4, hv⟩ : ∃ Xw, Xw = (v3.alloc (.cells #[.int .i64 (codeOf (sagC (G 0) (G 1) (sqr X Y))), .float .f64 ss, .float .f64 us] 55)) := ⟨_, rfl⟩
  rw [← hv]
  have ne_a_ws : Hid (w.heap.size ≠ v3.heap.size) := Nat.ne_of_lt (Nat.lt_of_lt_of_le B_a.out.lt (by omega))
  have B_ws : Hid (Blk v4 (v3.heap.size) #[.int .i64 (codeOf (sagC (G 0) (G 1) (sqr X Y))), .float .f64 ss, .float .f64 us] 55) := by show Blk v4 (v3.heap.size) _ _; rw [hv]; exact (Blk.new (by simp))
  have low_ws : Hid (w.heap.size ≤ v3.heap.size) := by show w.heap.size ≤ v3.heap.size; have := HO.out.size; omega
  replace B_a : Hid (Blk v4 (w.heap.size) #[.float .f64 (g 0), .float .f64 (g 1), .float .f64 (g 2), .float .f64 (g 3), .float .f64 (g 4)] 53) := by show Blk v4 (w.heap.size) _ _; rw [hv]; exact (Blk.alloc B_a.out _)
  replace HO : Hid (Below w.heap.size w v4) := by show Below w.heap.size w v4; rw [hv]; exact (below_new HO.out _)
  clear hv
  have a_0 := B_a.out.cell (j := 0) rfl
  have a_1 := B_a.out.cell (j := 1) rfl
  have a_2 := B_a.out.cell (j := 2) rfl
  have a_3 := B_a.out.cell (j := 3) rfl
  have a_4 := B_a.out.cell (j := 4) rfl
  have a_f := B_a.out.frozen
  have a_z := B_a.out.lt
  go_wp2_with fail
  refine (toFace_any _ _).mono ?_
  rintro e v5 ⟨rfl, hb⟩
  clear a_0 a_1 a_2 a_3 a_4 a_f a_z
  replace B_a : Hid (Blk v5 (w.heap.size) #[.float .f64 (g 0), .float .f64 (g 1), .float .f64 (g 2), .float .f64 (g 3), .float .f64 (g 4)] 53) := by show Blk v5 (w.heap.size) _ _; exact Blk.old B_a.out hb
  replace B_ws : Hid (Blk v5 (v3.heap.size) #[.int .i64 (codeOf (sagC (G 0) (G 1) (sqr X Y))), .float .f64 ss, .float .f64 us] 55) := by show Blk v5 (v3.heap.size) _ _; exact Blk.old B_ws.out hb
  replace HO : Hid (Below w.heap.size w v5) := box_step HO.out hb (Nat.le_refl _)
  clear hb
  go_wp2_with fail
  refine (iSag_any H.out.1 H.out.2.1 H.out.2.2 _).mono ?_
  rintro e v6 ⟨si, ui, rfl, hi, hb⟩
  replace B_a : Hid (Blk v6 (w.heap.size) #[.float .f64 (g 0), .float .f64 (g 1), .float .f64 (g 2), .float .f64 (g 3), .float .f64 (g 4)] 53) := by show Blk v6 (w.heap.size) _ _; exact Blk.old B_a.out hb
  replace B_ws : Hid (Blk v6 (v3.heap.size) #[.int .i64 (codeOf (sagC (G 0) (G 1) (sqr X Y))), .float .f64 ss, .float .f64 us] 55) := by show Blk v6 (v3.heap.size) _ _; exact Blk.old B_ws.out hb
  replace HO : Hid (Below w.heap.size w v6) := box_step HO.out hb (Nat.le_refl _)
  clear hb
  replace hi : Hid _ := hi
  go_upto_region 3 with fail
  obtain ⟨v7, hv⟩ : ∃ Xw, Xw = (v6.alloc (.cells #[.int .i64 (codeOf (sagC (G 0) (G 1) (sqr X Y))), .float .f64 si, .float .f64 ui] 55)) := ⟨_, rfl⟩
  rw [← hv]
  have ne_a_wi : Hid (w.heap.size ≠ v6.heap.size) := Nat.ne_of_lt (Nat.lt_of_lt_of_le B_a.out.lt (by omega))
  have ne_ws_wi : Hid (v3.heap.size ≠ v6.heap.size) := Nat.ne_of_lt (Nat.lt_of_lt_of_le B_ws.out.lt (by omega))
  have B_wi : Hid (Blk v7 (v6.heap.size) #[.int .i64 (codeOf (sagC (G 0) (G 1) (sqr X Y))), .float .f64 si, .float .f64 ui] 55) := by show Blk v7 (v6.heap.size) _ _; rw [hv]; exact (Blk.new (by simp))
  have low_wi : Hid (w.heap.size ≤ v6.heap.size) := by show w.heap.size ≤ v6.heap.size; have := HO.out.size; omega
  replace B_a : Hid (Blk v7 (w.heap.size) #[.float .f64 (g 0), .float .f64 (g 1), .float .f64 (g 2), .float .f64 (g 3), .float .f64 (g 4)] 53) := by show Blk v7 (w.heap.size) _ _; rw [hv]; exact (Blk.alloc B_a.out _)
  replace B_ws : Hid (Blk v7 (v3.heap.size) #[.int .i64 (codeOf (sagC (G 0) (G 1) (sqr X Y))), .float .f64 ss, .float .f64 us] 55) := by show Blk v7 (v3.heap.size) _ _; rw [hv]; exact (Blk.alloc B_ws.out _)
  replace HO : Hid (Below w.heap.size w v7) := by show Below w.heap.size w v7; rw [hv]; exact (below_new HO.out _)
  clear hv
  have ws_0 := B_ws.out.cell (j := 0) rfl
  have ws_1 := B_ws.out.cell (j := 1) rfl
  have ws_2 := B_ws.out.cell (j := 2) rfl
  have ws_f := B_ws.out.frozen
  have ws_z := B_ws.out.lt
  have wi_0 := B_wi.out.cell (j := 0) rfl
  have wi_1 := B_wi.out.cell (j := 1) rfl
  have wi_2 := B_wi.out.cell (j := 2) rfl
  have wi_f := B_wi.out.frozen
  have wi_z := B_wi.out.lt
  go_wp2_with fail
  refine (eqSR_same _ hi.out hs.out _).mono ?_
  rintro e v8 ⟨rfl, hb⟩
  clear ws_0 ws_1 ws_2 ws_f ws_z wi_0 wi_1 wi_2 wi_f wi_z
  replace B_a : Hid (Blk v8 (w.heap.size) #[.float .f64 (g 0), .float .f64 (g 1), .float .f64 (g 2), .float .f64 (g 3), .float .f64 (g 4)] 53) := by show Blk v8 (w.heap.size) _ _; exact Blk.old B_a.out hb
  replace B_ws : Hid (Blk v8 (v3.heap.size) #[.int .i64 (codeOf (sagC (G 0) (G 1) (sqr X Y))), .float .f64 ss, .float .f64 us] 55) := by show Blk v8 (v3.heap.size) _ _; exact Blk.old B_ws.out hb
  replace B_wi : Hid (Blk v8 (v6.heap.size) #[.int .i64 (codeOf (sagC (G 0) (G 1) (sqr X Y))), .float .f64 si, .float .f64 ui] 55) := by show Blk v8 (v6.heap.size) _ _; exact Blk.old B_wi.out hb
  replace HO : Hid (Below w.heap.size w v8) := box_step HO.out hb (Nat.le_refl _)
  clear hb
  go_wp2
  go_ret
  exact ⟨rfl, HO.out⟩

set_option maxRecDepth 100000 in
theorem lifted (os : Os) (started : os.Started) (H : Type) (enc : TypeId × Value → H) :
    ReturnsInHanded {} Try.checked os 6 .any (Rows.fnExactSagOfSpec.pre6 enc Try.prog Try.f6 Rows.fnExactSagOfRow.domain false) (Rows.fnExactSagOfSpec.post enc Try.prog Try.f6 false true false false) := by
  refine returnsInHanded_of_change (C := Try.checked) own started (by kernel_rfl) Try.func6
    (ChangeSpec.witness6 (enc := enc) (C := Try.checked) false ⟨#[], #[.agg #[.float .f64 0, .float .f64 0, .float .f64 0, .float .f64 0, .float .f64 0], .float .f64 0, .float .f64 0], []⟩ 8 (by kernel_rfl) (by kernel_rfl) (by kernel_rfl) (by kernel_rfl)) ?_
  intro W base args ds gs before hval0 hW hcnd _
  have hval : ∀ (j : Nat) t v, Try.f6.params[j]? = some t → args[j]? = some v → Value.okWide Try.prog W .any base t v := hval0
  have hW' := hW
  obtain ⟨p, q, hA0, hV, rfl, hfz, hnd⟩ := hW
  have hA : DataW.TrodAll enc Try.prog W 0 (fun _ => true) true Try.f6.params.toList args.toList ds p := hA0
  rw [Try.params6] at hA hval
  obtain ⟨v0, vs0, d0, ds0, p0, q0, hargs, rfl, rfl, h0, r0⟩ := trodAll_cons hA
  obtain ⟨v1, vs1, d1, ds1, p1, q1, rfl, rfl, rfl, h1, r1⟩ := trodAll_cons r0
  obtain ⟨v2, vs2, d2, ds2, p2, q2, rfl, rfl, rfl, h2, r2⟩ := trodAll_cons r1
  obtain ⟨rfl, rfl, rfl⟩ := trodAll_nil r2
  obtain rfl : args = #[v0, v1, v2] := by cases args; simp_all
  obtain ⟨rfl, rfl⟩ := trodVars_none hV
  have k0 := h0
  have lt0 : ∀ x ∈ p0, x.block < W.heap.size := by obtain ⟨m, hm⟩ := k0; exact DataW.trod_lt m _ _ _ hm
  obtain ⟨a0, A0, rfl, z0⟩ := open_face (hval 0 53 v0 rfl rfl) h0
  have k1 := h1
  have lt1 : ∀ x ∈ p1, x.block < W.heap.size := by obtain ⟨m, hm⟩ := k1; exact DataW.trod_lt m _ _ _ hm
  obtain ⟨a1, rfl, z1⟩ := open_flt (hval 1 25 v1 rfl rfl) h1
  have k2 := h2
  have lt2 : ∀ x ∈ p2, x.block < W.heap.size := by obtain ⟨m, hm⟩ := k2; exact DataW.trod_lt m _ _ _ hm
  obtain ⟨a2, rfl, z2⟩ := open_flt (hval 2 25 v2 rfl rfl) h2
  clear hA0 hval0
  refine (walk z0 z1 z2 W).mono fun e W' ⟨he, bel⟩ => ?_
  subst he
  exact ⟨_, rfl, _, _, _, [], _, [], hW', trodAll_mk1 (shut_bool Try.underlying4 _), (trodAll_cons_mk (Below.trod laidOut (by kernel_rfl) (of_decide_eq_true (by kernel_rfl)) k0 bel lt0) (trodAll_cons_mk (Below.trod laidOut (by kernel_rfl) (of_decide_eq_true (by kernel_rfl)) k1 bel lt1) (trodAll_cons_mk (Below.trod laidOut (by kernel_rfl) (of_decide_eq_true (by kernel_rfl)) k2 bel lt2) trodAll_mk0))), rfl, bel.frame _, fun h => by cases h⟩

theorem over : Rows.fnExactSagOfRow.holds Try.pinned (OpenSpec.ofChange Rows.fnExactSagOfSpec) :=
  OpenClaim.holds_of_wide 6 Try.f6 rfl rfl rfl rfl rfl rfl rfl ⟨rfl, rfl, rfl, rfl, rfl⟩ rfl rfl rfl rfl rfl (by kernel_rfl) Try.func6 (by kernel_rfl)
    (of_decide_eq_true (by kernel_rfl)) (by unfold Func.isWrapper; first | (rw [if_pos (by decide +kernel)]; kernel_rfl) | (rw [if_neg (by decide +kernel)]; exact ⟨rfl, rfl⟩))
    (fun os started H enc _ => lifted os started H enc)
end Go.Proofs.Ytjibogknakaokaa.LawSagOf
namespace Go.Proofs.Ytjibogknakaokaa
theorem sagOf_holds : Rows.FnExactSagOfSaid := LawSagOf.over
#print axioms sagOf_holds
end Go.Proofs.Ytjibogknakaokaa
