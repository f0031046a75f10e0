/- Whatever the bytes are: the turn that they draw is finite; a whole turn more changes nothing, half a turn more is the opposite, the quarters are exact; nothing that was there is changed. -/
import Derived.Test.YtnmkbhallidgaaaArgb
import Derived.Test.YtnmkbhallidgaaaTn
import Derived.Test.YtnmkbhallidgaaaDt
import Derived.Test.YtnmkbhallidgaaaStill
import Derived.Test.YtnmkbhallidgaaaTg
import Derived.Handy
import Derived.Deep.RegionHeld3
import Derived.Deep.DeepCutAuto
namespace Go.Proofs.Ytnmkbhallidgaaa.LawTurns
open Go.ChangeShapes Go.WideShapes Go.ChangeAt Go.RowKit Go.Joins Fl
set_option linter.unusedVariables false

set_option maxRecDepth 100000 in
set_option maxHeartbeats 6400000 in
theorem walk {w : World} {v : Value} {n : Nat} {g : Nat → Int} (h : RdB w v n g) (hn : n ≤ 9223372036854775807) (hg : ∀ i, i < n → 0 ≤ g i ∧ g i ≤ 255) :
    Calls Try.prog 3 #[v] w fun e w' => e = .returned (.bool true) ∧ Below w.heap.size w w' := by
  obtain ⟨ao, cap, rfl⟩ : ∃ ao cap, v = .slice ao n cap := by
    rcases h with ⟨ao, cap, rfl, rfl⟩ | ⟨b, off, cap, rfl, _⟩
    · exact ⟨ao, cap, rfl⟩
    · exact ⟨_, cap, rfl⟩
  have hst := st64
  have HB := big_any ao n cap
  go_enter Try.func3, Try.ntmps3
  go_wp2_with fail
  refine (HB _).mono ?_
  rintro e w0 ⟨rfl, rfl⟩
  by_cases hb : (1048576 : Int) < (n : Int)
  · rw [decide_eq_true hb]
    clear h hg HB
    go_wp2
    go_ret
    exact ⟨rfl, Below.refl _ _⟩
  rw [decide_eq_false hb]
  have hn2 : n ≤ 1000000000000 := by omega
  have H : Hid (RdB w (.slice ao n cap) n g ∧ (∀ i, i < n → 0 ≤ g i ∧ g i ≤ 255) ∧ n ≤ 1000000000000) := ⟨h, hg, hn2⟩
  clear h hg HB hb
  go_wp2_with fail
  refine (drawT_any H.out.1 H.out.2.1 hn2).mono ?_
  rintro e w1 ⟨t, rfl, t0, t1, b1⟩
  have A1 : Hid (Below w.heap.size w w1) := b1
  clear b1 H hn hn2
  obtain ⟨x, y, ht, bx, by_⟩ := turn_bd t
  have T : Hid (∀ w, Calls Try.prog 20 #[.int .i64 t] w fun e w' => e = .returned (Zv x y) ∧ Below w.heap.size w w') := turn_is ht
  have F : Hid (∀ w, Calls Try.prog 19 #[Zv x y] w fun e w' => e = .returned (.bool true) ∧ Below w.heap.size w w') := finiteZ_any bx.1 (bx.fin (by omega)) by_.1 (by_.fin (by omega))
  have S1 : Hid (oeq x (tx (t + 1048576)) = true ∧ oeq y (ty (t + 1048576)) = true) := by
    have q : oeq x (tx (t + 1048576)) = true ∧ oeq y (ty (t + 1048576)) = true := by
      rw [(words ((turn_more t).trans ht)).1, (words ((turn_more t).trans ht)).2]
      exact ⟨oeq_self bx.1 (bx.num (by omega)), oeq_self by_.1 (by_.num (by omega))⟩
    exact q
  clear bx by_ ht
  by_cases far : t < -1099511627776
  · go_wp2_with fail
    refine (T.out _).mono ?_
    rintro e w2 ⟨rfl, b2⟩
    have A2 : Hid (Below w.heap.size w w2) := box_step A1.out b2 (Nat.le_refl _)
    clear b2 A1
    go_wp2_with fail
    refine (F.out _).mono ?_
    rintro e w3 ⟨rfl, b3⟩
    have A3 : Hid (Below w.heap.size w w3) := box_step A2.out b3 (Nat.le_refl _)
    clear b3 A2
    go_wp2
    go_ret
    exact ⟨rfl, A3.out⟩
  by_cases far2 : 1099511627776 < t
  · go_wp2_with fail
    refine (T.out _).mono ?_
    rintro e w2 ⟨rfl, b2⟩
    have A2 : Hid (Below w.heap.size w w2) := box_step A1.out b2 (Nat.le_refl _)
    clear b2 A1
    go_wp2_with fail
    refine (F.out _).mono ?_
    rintro e w3 ⟨rfl, b3⟩
    have A3 : Hid (Below w.heap.size w w3) := box_step A2.out b3 (Nat.le_refl _)
    clear b3 A2
    go_wp2
    go_ret
    exact ⟨rfl, A3.out⟩
  clear F
  have S2 : Hid (oeq (tx 0) 4607182418800017408 = true ∧ oeq (ty 0) 0 = true) := by
    have q : oeq (tx 0) 4607182418800017408 = true ∧ oeq (ty 0) 0 = true := by
      rw [(words turn_0).1, (words turn_0).2]
      exact ⟨by decide, by decide⟩
    exact q
  have S3 : Hid (oeq (tx 524288) 13830554455654793216 = true ∧ oeq (ty 524288) 0 = true) := by
    have q : oeq (tx 524288) 13830554455654793216 = true ∧ oeq (ty 524288) 0 = true := by
      rw [(words half).1, (words half).2]
      exact ⟨by decide, by decide⟩
    exact q
  have S4 : Hid (oeq (tx 262144) 0 = true ∧ oeq (ty 262144) 4607182418800017408 = true) := by
    have q : oeq (tx 262144) 0 = true ∧ oeq (ty 262144) 4607182418800017408 = true := by
      rw [(words quarter).1, (words quarter).2]
      exact ⟨by decide, by decide⟩
    exact q
  go_wp2_with fail
  refine (T.out _).mono ?_
  rintro e w2 ⟨rfl, b2⟩
  have A2 : Hid (Below w.heap.size w w2) := box_step A1.out b2 (Nat.le_refl _)
  clear b2 A1
  obtain ⟨V, hV⟩ : ∃ V, V = w2.alloc (.cells #[.float .f64 x, .float .f64 y] 28) := ⟨_, rfl⟩
  have AV : Hid (Below w.heap.size w V ∧ w2.heap.size < V.heap.size) := ⟨by rw [hV]; exact A2.out.alloc A2.out.size _, by rw [hV]; simp⟩
  have AC0 : Hid (V.cell? ⟨w2.heap.size, 0, none⟩ = some (.float .f64 x)) := by
    have h : V.cell? ⟨w2.heap.size, 0, none⟩ = some (.float .f64 x) := by rw [hV]; simp
    exact h
  have AC1 : Hid (V.cell? ⟨w2.heap.size, 1, none⟩ = some (.float .f64 y)) := by
    have h : V.cell? ⟨w2.heap.size, 1, none⟩ = some (.float .f64 y) := by rw [hV]; simp
    exact h
  have k0 : ∀ x_1 : Kept V.heap.size V, x_1.w.cell? ⟨w2.heap.size, 0, none⟩ = some (.float .f64 x) := fun x_1 => x_1.cell AV.out.2 AC0.out
  have k1 : ∀ x_1 : Kept V.heap.size V, x_1.w.cell? ⟨w2.heap.size, 1, none⟩ = some (.float .f64 y) := fun x_1 => x_1.cell AV.out.2 AC1.out
  have hw1 : IntKind.i64.wrap (t + 1048576) = t + 1048576 := by rw [IntKind.wrap_i64]; omega
  go_wp2_with fail
  rw [← hV]
  clear hV A2

  refine wp_region_kept V.heap.size (by kernel_rfl) (by kernel_rfl) ?_
  intro hne
  repeat (go_big_quiet_step (first
    | (go_at_call 20; exact Calls.kept_of (Nat.le_refl _) (turn_u _ _))
    | (go_at_call 21; exact Calls.kept_of (Nat.le_refl _) (same_is (by first | with_reducible exact S1.out.1 | with_reducible exact S2.out.1 | with_reducible exact S3.out.1 | with_reducible exact S4.out.1) (by first | with_reducible exact S1.out.2 | with_reducible exact S2.out.2 | with_reducible exact S3.out.2 | with_reducible exact S4.out.2) _))))
  refine wpQuiet_nil ?_
  rintro w3 ⟨⟨w3', hb3⟩, rfl⟩
  have AW : Hid (Below w.heap.size w w3) := AV.out.1.trans (hb3.mono AV.out.1.size)
  clear hb3 k0 k1 hw1 S1 S2 S3 S4 T AV AC0 AC1 hne
  obtain ⟨u, hu, u0, u1⟩ := tmod_bd t
  have hf0 := field_re
  have hf1 := field_im
  have hf2 := neg_runs
  by_cases neg : u < 0
  · obtain ⟨s, hs⟩ : ∃ s, u + 1048576 = s := ⟨_, rfl⟩
    by_cases sm : s < 524288
    · have HX : Hid (_ ∧ _) := half_x (s := s) (by omega) sm
      go_wp2_with fail
      refine (turn_u _ _).mono ?_
      rintro e w4 ⟨rfl, b4⟩
      have A4 : Hid (Below w.heap.size w w4) := box_step AW.out b4 (Nat.le_refl _)
      clear b4 AW
      go_wp2_with fail
      refine (turn_u _ _).mono ?_
      rintro e w5 ⟨he, b5⟩
      unfold Zv at he
      subst he
      have A5 : Hid (Below w.heap.size w w5) := box_step A4.out b5 (Nat.le_refl _)
      clear b5 A4
      go_wp2_with fail
      refine (turn_u _ _).mono ?_
      rintro e w6 ⟨he, b6⟩
      unfold Zv at he
      subst he
      have A6 : Hid (Below w.heap.size w w6) := box_step A5.out b6 (Nat.le_refl _)
      clear b6 A5
      go_wp2_with fail
      refine (same_is HX.out.1 HX.out.2 _).mono ?_
      rintro e w7 ⟨rfl, b7⟩
      have A7 : Hid (Below w.heap.size w w7) := box_step A6.out b7 (Nat.le_refl _)
      clear b7 A6
      go_wp2
      go_ret
      exact ⟨rfl, A7.out⟩
    · go_wp2
      go_ret
      exact ⟨rfl, AW.out⟩
  · by_cases sm : u < 524288
    · have HX : Hid (_ ∧ _) := half_x (s := u) (by omega) sm
      go_wp2_with fail
      refine (turn_u _ _).mono ?_
      rintro e w4 ⟨rfl, b4⟩
      have A4 : Hid (Below w.heap.size w w4) := box_step AW.out b4 (Nat.le_refl _)
      clear b4 AW
      go_wp2_with fail
      refine (turn_u _ _).mono ?_
      rintro e w5 ⟨he, b5⟩
      unfold Zv at he
      subst he
      have A5 : Hid (Below w.heap.size w w5) := box_step A4.out b5 (Nat.le_refl _)
      clear b5 A4
      go_wp2_with fail
      refine (turn_u _ _).mono ?_
      rintro e w6 ⟨he, b6⟩
      unfold Zv at he
      subst he
      have A6 : Hid (Below w.heap.size w w6) := box_step A5.out b6 (Nat.le_refl _)
      clear b6 A5
      go_wp2_with fail
      refine (same_is HX.out.1 HX.out.2 _).mono ?_
      rintro e w7 ⟨rfl, b7⟩
      have A7 : Hid (Below w.heap.size w w7) := box_step A6.out b7 (Nat.le_refl _)
      clear b7 A6
      go_wp2
      go_ret
      exact ⟨rfl, A7.out⟩
    · go_wp2
      go_ret
      exact ⟨rfl, AW.out⟩

set_option maxRecDepth 100000 in
theorem lifted (os : Os) (started : os.Started) (H : Type) (enc : TypeId × Value → H) :
    ReturnsInHanded {} Try.checked os 3 .any (Rows.fnTurnsSpec.pre6 enc Try.prog Try.f3 Rows.fnTurnsRow.domain false) (Rows.fnTurnsSpec.post enc Try.prog Try.f3 false true false false) := by
  refine returnsInHanded_of_change (C := Try.checked) own started (by kernel_rfl) Try.func3
    (ChangeSpec.witness6 (enc := enc) (C := Try.checked) false ⟨#[], #[.slice none 0 0], []⟩ 8 (by kernel_rfl) (by kernel_rfl) (by kernel_rfl) (by kernel_rfl)) ?_
  intro W base args ds gs before hval0 hW hcnd _
  have hval : ∀ (j : Nat) t v, Try.f3.params[j]? = some t → args[j]? = some v → Value.okWide Try.prog W .any base t v := hval0
  have hW' := hW
  obtain ⟨p, q, hA0, hV, rfl, hfz, hnd⟩ := hW
  have hA : DataW.TrodAll enc Try.prog W 0 (fun _ => true) true Try.f3.params.toList args.toList ds p := hA0
  rw [Try.params3] at hA hval
  obtain ⟨v0, vs0, d0, ds0, p0, q0, hargs, rfl, rfl, h0, r0⟩ := trodAll_cons hA
  obtain ⟨rfl, rfl, rfl⟩ := trodAll_nil r0
  obtain rfl : args = #[v0] := by cases args; simp_all
  obtain ⟨rfl, rfl⟩ := trodVars_none hV
  have k0 := h0
  have lt0 : ∀ x ∈ p0, x.block < W.heap.size := by obtain ⟨m, hm⟩ := k0; exact DataW.trod_lt m _ _ _ hm
  obtain ⟨n0, F0, R0, nb0, fb0⟩ := open_bytes (hval 0 22 v0 rfl rfl) h0
  clear hA0 hval0
  refine (walk R0 nb0 fb0).mono fun e W' ⟨he, bel⟩ => ?_
  subst he
  exact ⟨_, rfl, _, _, _, [], _, [], hW', trodAll_mk1 (shut_bool Try.underlying4 _), (trodAll_cons_mk (Below.trod laidOut (by kernel_rfl) (of_decide_eq_true (by kernel_rfl)) k0 bel lt0) trodAll_mk0), rfl, bel.frame _, fun h => by cases h⟩

theorem over : Rows.fnTurnsRow.holds Try.pinned (OpenSpec.ofChange Rows.fnTurnsSpec) :=
  OpenClaim.holds_of_wide 3 Try.f3 rfl rfl rfl rfl rfl rfl rfl ⟨rfl, rfl, rfl, rfl, rfl⟩ rfl rfl rfl rfl rfl (by kernel_rfl) Try.func3 (by kernel_rfl)
    (of_decide_eq_true (by kernel_rfl)) (by unfold Func.isWrapper; first | (rw [if_pos (by decide +kernel)]; kernel_rfl) | (rw [if_neg (by decide +kernel)]; exact ⟨rfl, rfl⟩))
    (fun os started H enc _ => lifted os started H enc)
end Go.Proofs.Ytnmkbhallidgaaa.LawTurns
namespace Go.Proofs.Ytnmkbhallidgaaa
theorem turns_holds : Rows.FnTurnsSaid := LawTurns.over
#print axioms turns_holds
end Go.Proofs.Ytnmkbhallidgaaa
