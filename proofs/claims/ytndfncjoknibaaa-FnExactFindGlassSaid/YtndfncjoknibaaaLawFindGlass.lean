/- At every list of glasses and every name the program's FindGlass answers the specification's place, where the law's own bound on the sizes does not answer first; nothing that was there is changed. -/
import Derived.Test.YtndfncjoknibaaaRows
import Derived.Test.YtndfncjoknibaaaOpg
import Derived.Test.YtndfncjoknibaaaGd
import Derived.Handy
namespace Go.Proofs.Ytndfncjoknibaaa.LawFindGlass
open Go.ChangeShapes Go.WideShapes Go.ChangeAt Go.RowKit Go.Joins
set_option linter.unusedVariables false
set_option maxHeartbeats 1600000 in
theorem walk {w : World} {v : Value} {n : Nat} {G : Nat → Gl} {nm : ByteArray} (h : RdG w v n G) (hn : n ≤ 9223372036854775807) (hg : ∀ i, i < n → GlOk (G i)) (hs : nm.size ≤ 9223372036854775807) :
    Calls Try.prog 3 #[v, .string nm] w fun e w' => e = .returned (.bool true) ∧ Below w.heap.size w w' := by
  have H : Hid (RdG w v n G ∧ ∀ i, i < n → GlOk (G i)) := ⟨h, hg⟩
  clear h hg
  by_cases hbig : (1048576 : Int) < nm.size
  · go_enter Try.func3, Try.ntmps3
    go_wp2
    go_ret
    exact ⟨rfl, Below.refl _ _⟩
  go_enter Try.func3, Try.ntmps3
  go_wp2_with fail
  refine (szGS_any H.out.1 hn H.out.2).mono ?_
  rintro e w1 ⟨r, rfl, hr, b1⟩
  by_cases hr0 : r < 0
  · have HB : Hid (Below w.heap.size w w1) := b1
    clear b1 hr
    go_wp2
    go_ret
    exact ⟨rfl, HB.out⟩
  have hn2 : n ≤ 1048576 := by omega
  have HS : Hid ((∀ i, i < n → (G i).n ≤ 1000000000000) ∧ ∀ i, i < n → (G i).n ≤ 1000000000000 ∧ (G i).x < 18446744073709551616) := by
    have hz : Sz G n ≤ 1048576 := by omega
    have h1 : ∀ i, i < n → (G i).n ≤ 1000000000000 := fun i hi => by have := Sz_at (G := G) hi; omega
    exact ⟨h1, fun i hi => ⟨h1 i hi, (H.out.2 i hi).hx⟩⟩
  have A1 : Hid (Below w.heap.size w w1) := b1
  clear b1 hr
  go_wp2_with fail
  refine (toGS_any (H.out.1.later A1.out) (by omega) HS.out.1).mono ?_
  rintro e w2 ⟨rfl, g2, b2⟩
  have A2 : Hid (Below w.heap.size w w2 ∧ RdG w2 (.slice (some ⟨w1.heap.size, 0, none⟩) n n) n G) := ⟨box_step A1.out b2 (Nat.le_refl _), g2⟩
  clear b2 g2
  go_wp2_with fail
  refine (sFind_any A2.out.2 (by omega) nm).mono ?_
  rintro e w3 ⟨r3, rfl, f3, b3⟩
  have A3 : Hid (Below w.heap.size w w3 ∧ Found G nm n r3) := ⟨box_step A2.out.1 b3 (Nat.le_refl _), f3⟩
  clear b3 f3
  go_wp2_with fail
  refine (toGS_any (H.out.1.later A3.out.1) (by omega) HS.out.1).mono ?_
  rintro e w4 ⟨rfl, g4, b4⟩
  have A4 : Hid (Below w.heap.size w w4 ∧ RdG w4 (.slice (some ⟨w3.heap.size, 0, none⟩) n n) n G) := ⟨box_step A3.out.1 b4 (Nat.le_refl _), g4⟩
  clear b4 g4
  go_wp2_with fail
  refine (iFind_any A4.out.2 (by omega) nm).mono ?_
  rintro e w5 ⟨r5, rfl, f5, b5⟩
  obtain rfl : r3 = r5 := A3.out.2.same f5
  have A5 : Hid (Below w.heap.size w w5 ∧ RdG w5 (.slice (some ⟨w3.heap.size, 0, none⟩) n n) n G) := ⟨box_step A4.out.1 b5 (Nat.le_refl _), A4.out.2.later b5⟩
  clear b5 f5
  go_wp2_with fail
  refine (toGS_any (H.out.1.later A5.out.1) (by omega) HS.out.1).mono ?_
  rintro e w6 ⟨rfl, g6, b6⟩
  have A6 : Hid (Below w.heap.size w w6 ∧ RdG w6 (.slice (some ⟨w5.heap.size, 0, none⟩) n n) n G ∧ RdG w6 (.slice (some ⟨w3.heap.size, 0, none⟩) n n) n G) := ⟨box_step A5.out.1 b6 (Nat.le_refl _), g6, A5.out.2.later b6⟩
  clear b6 g6
  go_wp2_with fail
  refine (eqGS_any A6.out.2.2 A6.out.2.1 (by omega) HS.out.2).mono ?_
  rintro e w7 ⟨rfl, b7⟩
  have HB : Hid (Below w.heap.size w w7) := box_step A6.out.1 b7 (Nat.le_refl _)
  clear b7
  go_wp2
  go_ret
  exact ⟨rfl, HB.out⟩
set_option maxRecDepth 100000 in
theorem lifted (os : Os) (started : os.Started) (H : Type) (enc : TypeId × Value → H) :
    ReturnsInHanded {} Try.checked os 3 .any (Rows.fnExactFindGlassSpec.pre6 enc Try.prog Try.f3 Rows.fnExactFindGlassRow.domain false) (Rows.fnExactFindGlassSpec.post enc Try.prog Try.f3 false true false false) := by
  refine returnsInHanded_of_change (C := Try.checked) own started (by kernel_rfl) Try.func3
    (ChangeSpec.witness6 (enc := enc) (C := Try.checked) false ⟨#[], #[.slice none 0 0, .string ⟨#[]⟩], []⟩ 8 (by kernel_rfl) (by kernel_rfl) (by kernel_rfl) (by kernel_rfl)) ?_
  intro W base args ds gs before hval0 hW hcnd _
  have hval : ∀ (j : Nat) t v, Try.f3.params[j]? = some t → args[j]? = some v → Value.okWide Try.prog W .any base t v := hval0
  have hW' := hW
  obtain ⟨p, q, hA0, hV, rfl, hfz, hnd⟩ := hW
  have hA : DataW.TrodAll enc Try.prog W 0 (fun _ => true) true Try.f3.params.toList args.toList ds p := hA0
  rw [Try.params3] at hA hval
  obtain ⟨v0, vs0, d0, ds0, p0, q0, hargs, rfl, rfl, h0, r0⟩ := trodAll_cons hA
  obtain ⟨v1, vs1, d1, ds1, p1, q1, hargs1, rfl, rfl, h1, r1⟩ := trodAll_cons r0
  obtain ⟨rfl, rfl, rfl⟩ := trodAll_nil r1
  obtain rfl : args = #[v0, v1] := by cases args; simp_all
  obtain ⟨rfl, rfl⟩ := trodVars_none hV
  have k0 := h0
  have lt0 : ∀ x ∈ p0, x.block < W.heap.size := by obtain ⟨m, hm⟩ := k0; exact DataW.trod_lt m _ _ _ hm
  have k1 := h1
  have lt1 : ∀ x ∈ p1, x.block < W.heap.size := by obtain ⟨m, hm⟩ := k1; exact DataW.trod_lt m _ _ _ hm
  obtain ⟨n0, G0, R0, nb0, ok0⟩ := open_gs (hval 0 22 v0 rfl rfl) h0
  obtain ⟨nm, e1, _, _, ws⟩ := Go.ChangeMaps.open_string Try.underlying9 (hval 1 9 v1 rfl rfl) h1
  subst e1
  clear hA0 hval0
  refine (walk R0 nb0 ok0 (by rw [maxLen_eq] at ws; exact ws)).mono fun e W' ⟨he, bel⟩ => ?_
  subst he
  exact ⟨_, rfl, _, _, _, [], _, [], hW', trodAll_mk1 (shut_bool Try.underlying4 _), (trodAll_cons_mk (Below.trod laidOut (by kernel_rfl) (of_decide_eq_true (by kernel_rfl)) k0 bel lt0) (trodAll_cons_mk (Below.trod laidOut (by kernel_rfl) (of_decide_eq_true (by kernel_rfl)) k1 bel lt1) trodAll_mk0)), rfl, bel.frame _, fun h => by cases h⟩
theorem over : Rows.fnExactFindGlassRow.holds Try.pinned (OpenSpec.ofChange Rows.fnExactFindGlassSpec) :=
  OpenClaim.holds_of_wide 3 Try.f3 rfl rfl rfl rfl rfl rfl rfl ⟨rfl, rfl, rfl, rfl, rfl⟩ rfl rfl rfl rfl rfl (by kernel_rfl) Try.func3 (by kernel_rfl)
    (of_decide_eq_true (by kernel_rfl)) (by unfold Func.isWrapper; first | (rw [if_pos (by decide +kernel)]; kernel_rfl) | (rw [if_neg (by decide +kernel)]; exact ⟨rfl, rfl⟩))
    (fun os started H enc _ => lifted os started H enc)
end Go.Proofs.Ytndfncjoknibaaa.LawFindGlass
namespace Go.Proofs.Ytndfncjoknibaaa
theorem findGlass_holds : Rows.FnExactFindGlassSaid := LawFindGlass.over
#print axioms findGlass_holds
end Go.Proofs.Ytndfncjoknibaaa
