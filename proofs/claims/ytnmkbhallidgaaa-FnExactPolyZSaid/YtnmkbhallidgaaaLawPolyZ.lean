/- At every list of complex numbers and every number the program answers the specification's value of the polynomial, part by part, all NaNs being one, where the law's own bound on the length does not answer first; nothing that was there is changed. -/
import Derived.Test.YtnmkbhallidgaaaOpenZs
import Derived.Test.YtnmkbhallidgaaaSz
import Derived.Test.YtnmkbhallidgaaaPoi
import Derived.Test.YtnmkbhallidgaaaKeeps
import Derived.Handy
import Derived.Deep.RegionHeld3
import Derived.Deep.DeepCutAuto
namespace Go.Proofs.Ytnmkbhallidgaaa.LawPolyZ
open Go.ChangeShapes Go.WideShapes Go.ChangeAt Go.RowKit Go.Joins Fl
set_option linter.unusedVariables false

theorem seg_alloc {w : World} {b : Nat} {t : TypeId} {n m : Nat} {f : Nat → Nat → Nat} (h : SegM w b t n m f) (o : Obj) : SegM (w.alloc o) b t n m f := h.below ((Below.refl _ _).alloc (Nat.le_refl _) _)
set_option maxHeartbeats 25600000 in
theorem walk {w : World} {v : Value} {n : Nat} {f : Nat → Nat → Nat} (h : RdM w v n 2 f) (hn : n ≤ 9223372036854775807) (hf : ∀ i, i < n → Zc (f i 0) (f i 1) (clZ f i)) {c d : Nat} {q : Option Nat × Option Nat} (hq : Zc c d q) :
    Calls Try.prog 9 #[v, Zv c d] w fun e w' => e = .returned (.bool true) ∧ Below w.heap.size w w' := by
  obtain ⟨ao, cap, rfl⟩ := h.form
  have H : Hid (RdM w (.slice ao n cap) n 2 f ∧ ∀ i, i < n → Zc (f i 0) (f i 1) (clZ f i)) := ⟨h, hf⟩
  have hst := st64
  clear h hf
  go_enter Try.func9, Try.ntmps9
  go_wp2_with fail
  refine (sz28_any ao n cap _ (by omega)).mono ?_
  rintro e w0 ⟨rfl, rfl⟩
  by_cases hb : 1048576 < n
  · rw [if_pos hb]
    go_wp2
    go_ret
    refine ⟨rfl, ?_⟩
    go_grown
  rw [if_neg hb]
  have hn2 : n ≤ 1000000000000 := by omega
  have hn3 : ¬ ((1048576 : Int) - n < 0) := by omega
  obtain ⟨X, hX⟩ : ∃ X, X = (w.alloc (.cells #[.float .f64 c, .float .f64 d] 31)) := ⟨_, rfl⟩
  have HX : Hid (Below w.heap.size w X) := by rw [hX]; exact (Below.refl _ _).alloc (Nat.le_refl _) _
  have hXs : w.heap.size + 1 ≤ X.heap.size := by rw [hX]; simp
  have hXt : X.heap.size ≤ w.heap.size + 1 := by rw [hX]; simp
  have z0 : ∀ W, Below (w.heap.size + 1) X W → W.cell? ⟨w.heap.size, 0, none⟩ = some (.float .f64 c) := fun _ h => (h.cell (by simp)).trans (by rw [hX]; simp)
  have z1 : ∀ W, Below (w.heap.size + 1) X W → W.cell? ⟨w.heap.size, 1, none⟩ = some (.float .f64 d) := fun _ h => (h.cell (by simp)).trans (by rw [hX]; simp)
  have hR0 : Below (w.heap.size + 1) X X := Below.refl _ _
  go_upto_region 5 with fail
  rw [← hX]
  clear hX
  go_cut [6] (fun pt wx => ∃ k x y : Nat, pt = .pointer (some ⟨k, 0, none⟩) ∧ w.heap.size + 1 ≤ k ∧ k < wx.heap.size ∧ Below (w.heap.size + 1) X wx ∧ wx.cell? ⟨k, 0, none⟩ = some (.float .f64 x) ∧ wx.cell? ⟨k, 1, none⟩ = some (.float .f64 y) ∧ Zc x y (polyL f n q n))
  case first =>
    go_region_held (fun W => Below (w.heap.size + 1) X W) (go_grown)
      (first | (go_at_call 34; refine (to28_any (H.out.1.later (Below.trans HX.out (Below.mono ?_ (show w.heap.size ≤ w.heap.size + 1 by omega)))) hn2).mono ?_; go_grown; rintro e w1 ⟨rfl, sg1, hb1⟩; (try simp at sg1); have hs1 := hb1.size; (try simp at hs1); have hR1 : Below (w.heap.size + 1) X w1 := (by refine box_step ?_ hb1 hXs; go_grown); (first | (have hZ := box_step hZ hb1 (Nat.le_refl _)) | (have hZ := hb1)); obtain ⟨ho1, hf1, hz1⟩ := olds hZ) | (go_at_call 23; refine (toZ_any _ _ _).mono ?_; rintro e w1 ⟨rfl, hb1⟩; have sg1 := SegM.below (by first | exact sg1 | exact seg_alloc sg1 _) hb1; have hs1 := hb1.size; (try simp at hs1); have hR1 : Below (w.heap.size + 1) X w1 := (by refine box_step ?_ hb1 hXs; go_grown); (first | (have hZ := box_step hZ hb1 (Nat.le_refl _)) | (have hZ := hb1)); obtain ⟨ho1, hf1, hz1⟩ := olds hZ) | (go_at_call 37; refine (sPoly_any _ n n f _ hn2 (by first | exact sg1 | exact seg_alloc sg1 _) H.out.2 hq).mono ?_; rintro e w1 ⟨x, y, rfl, hc, hb1⟩; have hs1 := hb1.size; (try simp at hs1); have hR1 : Below (w.heap.size + 1) X w1 := (by refine box_step ?_ hb1 hXs; go_grown); (first | (have hZ := box_step hZ hb1 (Nat.le_refl _)) | (have hZ := hb1)); obtain ⟨ho1, hf1, hz1⟩ := olds hZ))
    all_goals
      go_wp2_with fail
      go_meet
      case rel =>
        refine ⟨_, _, _, rfl, ?_, ?_, ?_, ?_, ?_, hc⟩
        · omega
        · simp [World.setCell] <;> omega
        · go_grown
        · go_simp
        · go_simp
  case rest =>
    obtain ⟨k, x, y, rfl, hk1, hk2, hB, c0, c1, hz⟩ := hcut
    have A2 : Hid (Below w.heap.size w wc) := Below.trans HX.out (hB.mono (by omega))
    have B0 : Hid (wc.cell? ⟨w.heap.size, 0, none⟩ = some (.float .f64 c)) := z0 _ hB
    have B1 : Hid (wc.cell? ⟨w.heap.size, 1, none⟩ = some (.float .f64 d)) := z1 _ hB
    have C0 : Hid (wc.cell? ⟨k, 0, none⟩ = some (.float .f64 x)) := c0
    have C1 : Hid (wc.cell? ⟨k, 1, none⟩ = some (.float .f64 y)) := c1
    have hw : w.heap.size < wc.heap.size := by omega
    have HK : Hid (k < wc.heap.size ∧ w.heap.size < wc.heap.size) := ⟨hk2, hw⟩
    clear z0 z1 hR0 hB hXs hXt c0 c1 hk1 hk2 hw
    obtain ⟨V, hV⟩ : ∃ v, v = wc := ⟨_, rfl⟩
    subst hV
    go_wp2_with fail
    refine (to28_any (H.out.1.later A2.out) hn2).mono ?_
    rintro e w3 ⟨rfl, s3, b3⟩
    have A3 : Hid (SegM w3 V.heap.size 28 n 2 f ∧ Below V.heap.size V w3) := ⟨s3, b3⟩
    have e0 := old_cell b3 HK.out.2 B0.out
    have e1 := old_cell b3 HK.out.2 B1.out
    clear s3 b3
    go_wp2_with fail
    refine (toZ_any _ _ _).mono ?_
    rintro e w5 ⟨rfl, b5⟩
    have A5 : Hid (SegM w5 V.heap.size 28 n 2 f ∧ Below V.heap.size V w5) := ⟨A3.out.1.below b5, box_step A3.out.2 b5 (Nat.le_refl _)⟩
    clear b5 A3 e0 e1
    go_wp2_with fail
    refine (iPoly_any V.heap.size n n f w5 hn2 A5.out.1 H.out.2 hq).mono ?_
    rintro e w4 ⟨x', y', rfl, hy, b4⟩
    have A4 : Hid (SegM w4 V.heap.size 28 n 2 f ∧ Below V.heap.size V w4) := ⟨A5.out.1.below b4, box_step A5.out.2 b4 (Nat.le_refl _)⟩
    clear b4 A5
    have dc0 := old_cell A4.out.2 HK.out.1 C0.out
    have dc1 := old_cell A4.out.2 HK.out.1 C1.out
    have d0 : ∀ o, (w4.alloc o).cell? ⟨k, 0, none⟩ = some (.float .f64 x) := fun o => alloc_keeps dc0
    have d1 : ∀ o, (w4.alloc o).cell? ⟨k, 1, none⟩ = some (.float .f64 y) := fun o => alloc_keeps dc1
    have hne : ¬ k = w4.heap.size := by have := A4.out.2.size; have := HK.out.1; omega
    clear C0 C1 B0 B1
    go_wp2_with fail
    refine (eqZ_same hy hz _).mono ?_
    rintro e w6 ⟨rfl, b6⟩
    have B4 : Below V.heap.size V (w4.alloc (.cells #[.float .f64 x', .float .f64 y'] 28)) := A4.out.2.alloc A4.out.2.size _
    have A6 : Hid (SegM w6 V.heap.size 28 n 2 f ∧ Below V.heap.size V w6) := ⟨(A4.out.1.below ((Below.refl _ _).alloc (Nat.le_refl _) _)).below b6, box_step B4 b6 (Nat.le_refl _)⟩
    clear b6 B4 A4 dc0 dc1 d0 d1 hne
    go_wp2_with fail
    refine (to28_any (H.out.1.later (box_step A2.out A6.out.2 (Nat.le_refl _))) hn2).mono ?_
    rintro e w7 ⟨rfl, s7, b7⟩
    have A7 : Hid (SegM w7 w6.heap.size 28 n 2 f ∧ SegM w7 V.heap.size 28 n 2 f ∧ Below w.heap.size w w7) := ⟨s7, A6.out.1.below b7, box_step (box_step A2.out A6.out.2 (Nat.le_refl _)) b7 (Nat.le_refl _)⟩
    clear s7 b7 A6
    go_wp2_with fail
    refine (eq28_same _ _ _ _ n f w7 hn2 A7.out.2.1 A7.out.1 H.out.2).mono ?_
    rintro e w8 ⟨rfl, b8⟩
    have A8 : Hid (Below w.heap.size w w8) := box_step A7.out.2.2 b8 (Nat.le_refl _)
    clear b8 A7
    go_wp2
    go_ret
    exact ⟨rfl, A8.out⟩

set_option maxRecDepth 100000 in
theorem lifted (os : Os) (started : os.Started) (H : Type) (enc : TypeId × Value → H) :
    ReturnsInHanded {} Try.checked os 9 .any (Rows.fnExactPolyZSpec.pre6 enc Try.prog Try.f9 Rows.fnExactPolyZRow.domain false) (Rows.fnExactPolyZSpec.post enc Try.prog Try.f9 false true false false) := by
  refine returnsInHanded_of_change (C := Try.checked) own started (by kernel_rfl) Try.func9
    (ChangeSpec.witness6 (enc := enc) (C := Try.checked) false ⟨#[], #[.slice none 0 0, .agg #[.float .f64 0, .float .f64 0]], []⟩ 8 (by kernel_rfl) (by kernel_rfl) (by kernel_rfl) (by kernel_rfl)) ?_
  intro W base args ds gs before hval0 hW hcnd _
  have hval : ∀ (j : Nat) t v, Try.f9.params[j]? = some t → args[j]? = some v → Value.okWide Try.prog W .any base t v := hval0
  have hW' := hW
  obtain ⟨p, q, hA0, hV, rfl, hfz, hnd⟩ := hW
  have hA : DataW.TrodAll enc Try.prog W 0 (fun _ => true) true Try.f9.params.toList args.toList ds p := hA0
  rw [Try.params9] at hA hval
  obtain ⟨v0, vs0, d0, ds0, p0, q0, hargs, rfl, rfl, h0, r0⟩ := trodAll_cons hA
  obtain ⟨v1, vs1, d1, ds1, p1, q1, rfl, rfl, rfl, h1, r1⟩ := trodAll_cons r0
  obtain ⟨rfl, rfl, rfl⟩ := trodAll_nil r1
  obtain rfl : args = #[v0, v1] := by cases args; simp_all
  obtain ⟨rfl, rfl⟩ := trodVars_none hV
  have k0 := h0
  have lt0 : ∀ x ∈ p0, x.block < W.heap.size := by obtain ⟨m, hm⟩ := k0; exact DataW.trod_lt m _ _ _ hm
  obtain ⟨n0, F0, R0, nb0, fb0⟩ := open_zrow (hval 0 38 v0 rfl rfl) h0
  have k1 := h1
  have lt1 : ∀ x ∈ p1, x.block < W.heap.size := by obtain ⟨m, hm⟩ := k1; exact DataW.trod_lt m _ _ _ hm
  obtain ⟨a1, b1, rfl, z1⟩ := open_z (hval 1 31 v1 rfl rfl) h1
  clear hA0 hval0
  refine (walk R0 nb0 fb0 z1).mono fun e W' ⟨he, bel⟩ => ?_
  subst he
  exact ⟨_, rfl, _, _, _, [], _, [], hW', trodAll_mk1 (shut_bool Try.underlying4 _), (trodAll_cons_mk (Below.trod laidOut (by kernel_rfl) (of_decide_eq_true (by kernel_rfl)) k0 bel lt0) (trodAll_cons_mk (Below.trod laidOut (by kernel_rfl) (of_decide_eq_true (by kernel_rfl)) k1 bel lt1) trodAll_mk0)), rfl, bel.frame _, fun h => by cases h⟩

theorem over : Rows.fnExactPolyZRow.holds Try.pinned (OpenSpec.ofChange Rows.fnExactPolyZSpec) :=
  OpenClaim.holds_of_wide 9 Try.f9 rfl rfl rfl rfl rfl rfl rfl ⟨rfl, rfl, rfl, rfl, rfl⟩ rfl rfl rfl rfl rfl (by kernel_rfl) Try.func9 (by kernel_rfl)
    (of_decide_eq_true (by kernel_rfl)) (by unfold Func.isWrapper; first | (rw [if_pos (by decide +kernel)]; kernel_rfl) | (rw [if_neg (by decide +kernel)]; exact ⟨rfl, rfl⟩))
    (fun os started H enc _ => lifted os started H enc)
end Go.Proofs.Ytnmkbhallidgaaa.LawPolyZ
namespace Go.Proofs.Ytnmkbhallidgaaa
theorem polyZ_holds : Rows.FnExactPolyZSaid := LawPolyZ.over
#print axioms polyZ_holds
end Go.Proofs.Ytnmkbhallidgaaa
