/- At every list of complex numbers the program answers the specification's sum, part by part, all NaNs being one, where the law's own bound on the length does not answer first; nothing that was there is changed. -/
import Derived.Test.YtnmkbhallidgaaaOpenZs
import Derived.Test.YtnmkbhallidgaaaSz
import Derived.Handy
import Derived.Deep.RegionHeld3
import Derived.Deep.DeepCutAuto
namespace Go.Proofs.Ytnmkbhallidgaaa.LawSumZ
open Go.ChangeShapes Go.WideShapes Go.ChangeAt Go.RowKit Go.Joins Fl
set_option linter.unusedVariables false

set_option maxHeartbeats 3200000 in
theorem walk {w : World} {v : Value} {n : Nat} {f : Nat → Nat → Nat} (h : RdM w v n 2 f) (hn : n ≤ 9223372036854775807) (hf : ∀ i, i < n → Zc (f i 0) (f i 1) (clZ f i)) :
    Calls Try.prog 8 #[v] w fun e w' => e = .returned (.bool true) ∧ Below w.heap.size w w' := by
  obtain ⟨ao, cap, rfl⟩ := h.form
  have H : Hid (RdM w (.slice ao n cap) n 2 f ∧ ∀ i, i < n → Zc (f i 0) (f i 1) (clZ f i)) := ⟨h, hf⟩
  have hst := st64
  clear h hf
  go_enter Try.func8, Try.ntmps8
  go_wp2_with fail
  refine (sz28_any ao n cap _ (by omega)).mono ?_
  rintro e w0 ⟨rfl, rfl⟩
  by_cases hb : 1048576 < n
  · rw [if_pos hb]
    go_wp2
    go_ret
    exact ⟨rfl, Below.refl _ _⟩
  rw [if_neg hb]
  have hn2 : n ≤ 1000000000000 := by omega
  have hn3 : ¬ ((1048576 : Int) - n < 0) := by omega
  go_wp2_with fail
  refine (to28_any H.out.1 hn2).mono ?_
  rintro e w1 ⟨rfl, s1, b1⟩
  have A1 : Hid (SegM w1 w.heap.size 28 n 2 f ∧ Below w.heap.size w w1) := ⟨s1, b1⟩
  clear s1 b1
  go_wp2_with fail
  refine (sSum_any w.heap.size n n f w1 hn2 A1.out.1 H.out.2).mono ?_
  rintro e w2 ⟨x, y, rfl, hz, b2⟩
  have A2 : Hid (Below w.heap.size w w2) := box_step A1.out.2 b2 (Nat.le_refl _)
  clear b2 A1
  obtain ⟨V, hV⟩ : ∃ V, V = w2.alloc (.cells #[.float .f64 x, .float .f64 y] 28) := ⟨_, rfl⟩
  have AV : Hid (Below w.heap.size w V ∧ w2.heap.size < V.heap.size) := ⟨by rw [hV]; exact A2.out.alloc A2.out.size _, by rw [hV]; simp⟩
  have AC0 : Hid (V.cell? ⟨w2.heap.size, 0, none⟩ = some (.float .f64 x)) := by
    have h : V.cell? ⟨w2.heap.size, 0, none⟩ = some (.float .f64 x) := by rw [hV]; simp
    exact h
  have AC1 : Hid (V.cell? ⟨w2.heap.size, 1, none⟩ = some (.float .f64 y)) := by
    have h : V.cell? ⟨w2.heap.size, 1, none⟩ = some (.float .f64 y) := by rw [hV]; simp
    exact h
  go_wp2_with fail
  rw [← hV]
  clear hV
  refine (to28_any (H.out.1.later AV.out.1) hn2).mono ?_
  rintro e w3 ⟨rfl, s3, b3⟩
  have A3 : Hid (SegM w3 V.heap.size 28 n 2 f ∧ Below V.heap.size V w3) := ⟨s3, b3⟩
  clear s3 b3
  go_wp2_with fail
  refine (iSum_any V.heap.size n n f w3 hn2 A3.out.1 H.out.2).mono ?_
  rintro e w4 ⟨x', y', rfl, hy, b4⟩
  have A4 : Hid (SegM w4 V.heap.size 28 n 2 f ∧ Below V.heap.size V w4) := ⟨A3.out.1.below b4, box_step A3.out.2 b4 (Nat.le_refl _)⟩
  clear b4 A3
  have d0 : w4.cell? ⟨w2.heap.size, 0, none⟩ = some (.float .f64 x) := old_cell A4.out.2 AV.out.2 AC0.out
  have d1 : w4.cell? ⟨w2.heap.size, 1, none⟩ = some (.float .f64 y) := old_cell A4.out.2 AV.out.2 AC1.out
  have q0 : ∀ o, (w4.alloc o).cell? ⟨w2.heap.size, 0, none⟩ = some (.float .f64 x) := fun o => cell_alloc_old' d0
  have q1 : ∀ o, (w4.alloc o).cell? ⟨w2.heap.size, 1, none⟩ = some (.float .f64 y) := fun o => cell_alloc_old' d1
  have hlt : w2.heap.size < w4.heap.size := Nat.lt_of_lt_of_le AV.out.2 A4.out.2.size
  have hne : ¬ w2.heap.size = w4.heap.size := by omega
  clear AC0 AC1
  go_wp2_with fail
  refine (eqZ_same hy hz _).mono ?_
  rintro e w5 ⟨rfl, b5⟩
  have B4 : Below V.heap.size V (w4.alloc (.cells #[.float .f64 x', .float .f64 y'] 28)) := A4.out.2.alloc A4.out.2.size _
  have A5 : Hid (SegM w5 V.heap.size 28 n 2 f ∧ Below V.heap.size V w5) := ⟨(A4.out.1.below ((Below.refl _ _).alloc (Nat.le_refl _) _)).below b5, box_step B4 b5 (Nat.le_refl _)⟩
  clear b5 B4 A4 d0 q0 d1 q1 hlt hne
  go_wp2_with fail
  refine (to28_any (H.out.1.later (box_step AV.out.1 A5.out.2 (Nat.le_refl _))) hn2).mono ?_
  rintro e w6 ⟨rfl, s6, b6⟩
  have A6 : Hid (SegM w6 w5.heap.size 28 n 2 f ∧ SegM w6 V.heap.size 28 n 2 f ∧ Below w.heap.size w w6) := ⟨s6, A5.out.1.below b6, box_step (box_step AV.out.1 A5.out.2 (Nat.le_refl _)) b6 (Nat.le_refl _)⟩
  clear s6 b6 A5
  go_wp2_with fail
  refine (eq28_same _ _ _ _ n f w6 hn2 A6.out.2.1 A6.out.1 H.out.2).mono ?_
  rintro e w7 ⟨rfl, b7⟩
  have A7 : Hid (Below w.heap.size w w7) := box_step A6.out.2.2 b7 (Nat.le_refl _)
  clear b7 A6
  go_wp2
  go_ret
  exact ⟨rfl, A7.out⟩

set_option maxRecDepth 100000 in
theorem lifted (os : Os) (started : os.Started) (H : Type) (enc : TypeId × Value → H) :
    ReturnsInHanded {} Try.checked os 8 .any (Rows.fnExactSumZSpec.pre6 enc Try.prog Try.f8 Rows.fnExactSumZRow.domain false) (Rows.fnExactSumZSpec.post enc Try.prog Try.f8 false true false false) := by
  refine returnsInHanded_of_change (C := Try.checked) own started (by kernel_rfl) Try.func8
    (ChangeSpec.witness6 (enc := enc) (C := Try.checked) false ⟨#[], #[.slice none 0 0], []⟩ 8 (by kernel_rfl) (by kernel_rfl) (by kernel_rfl) (by kernel_rfl)) ?_
  intro W base args ds gs before hval0 hW hcnd _
  have hval : ∀ (j : Nat) t v, Try.f8.params[j]? = some t → args[j]? = some v → Value.okWide Try.prog W .any base t v := hval0
  have hW' := hW
  obtain ⟨p, q, hA0, hV, rfl, hfz, hnd⟩ := hW
  have hA : DataW.TrodAll enc Try.prog W 0 (fun _ => true) true Try.f8.params.toList args.toList ds p := hA0
  rw [Try.params8] at hA hval
  obtain ⟨v0, vs0, d0, ds0, p0, q0, hargs, rfl, rfl, h0, r0⟩ := trodAll_cons hA
  obtain ⟨rfl, rfl, rfl⟩ := trodAll_nil r0
  obtain rfl : args = #[v0] := by cases args; simp_all
  obtain ⟨rfl, rfl⟩ := trodVars_none hV
  have k0 := h0
  have lt0 : ∀ x ∈ p0, x.block < W.heap.size := by obtain ⟨m, hm⟩ := k0; exact DataW.trod_lt m _ _ _ hm
  obtain ⟨n0, F0, R0, nb0, fb0⟩ := open_zrow (hval 0 38 v0 rfl rfl) h0
  clear hA0 hval0
  refine (walk R0 nb0 fb0).mono fun e W' ⟨he, bel⟩ => ?_
  subst he
  exact ⟨_, rfl, _, _, _, [], _, [], hW', trodAll_mk1 (shut_bool Try.underlying4 _), (trodAll_cons_mk (Below.trod laidOut (by kernel_rfl) (of_decide_eq_true (by kernel_rfl)) k0 bel lt0) trodAll_mk0), rfl, bel.frame _, fun h => by cases h⟩

theorem over : Rows.fnExactSumZRow.holds Try.pinned (OpenSpec.ofChange Rows.fnExactSumZSpec) :=
  OpenClaim.holds_of_wide 8 Try.f8 rfl rfl rfl rfl rfl rfl rfl ⟨rfl, rfl, rfl, rfl, rfl⟩ rfl rfl rfl rfl rfl (by kernel_rfl) Try.func8 (by kernel_rfl)
    (of_decide_eq_true (by kernel_rfl)) (by unfold Func.isWrapper; first | (rw [if_pos (by decide +kernel)]; kernel_rfl) | (rw [if_neg (by decide +kernel)]; exact ⟨rfl, rfl⟩))
    (fun os started H enc _ => lifted os started H enc)
end Go.Proofs.Ytnmkbhallidgaaa.LawSumZ
namespace Go.Proofs.Ytnmkbhallidgaaa
theorem sumZ_holds : Rows.FnExactSumZSaid := LawSumZ.over
#print axioms sumZ_holds
end Go.Proofs.Ytnmkbhallidgaaa
