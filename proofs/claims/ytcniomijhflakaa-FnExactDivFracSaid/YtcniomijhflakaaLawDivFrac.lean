/- At every two fractions that come in, right or not, the program's DivFrac answers as the specification, field by field; nothing that was there is changed. -/
import Derived.Test.YtcniomijhflakaaOpen
import Derived.Test.YtcniomijhflakaaIo
import Derived.Test.YtcniomijhflakaaMake
import Derived.Test.YtcniomijhflakaaTwos
import Derived.Handy
import Derived.Deep.RegionHeld3
import Derived.Deep.DeepCutAuto
namespace Go.Proofs.Ytcniomijhflakaa.LawDivFrac
open Go.ChangeShapes Go.WideShapes Go.ChangeAt Go.RowKit Go.Joins
set_option linter.unusedVariables false

set_option maxHeartbeats 1000000 in
theorem walk (a b c d : Int) (w : World) :
    Calls Try.prog 6 #[.agg #[.int .i64 a, .int .i64 b], .agg #[.int .i64 c, .int .i64 d]] w fun e w' => e = .returned (.bool true) ∧ Below w.heap.size w w' := by
  have k0 : ∀ W, Below (w.heap.size + 2) ((w.alloc (.cells #[.int .i64 a, .int .i64 b] 23)).alloc (.cells #[.int .i64 c, .int .i64 d] 23)) W → W.cell? ⟨w.heap.size, 0, none⟩ = some (.int .i64 a) := fun _ h => (boxes h).1
  have k1 : ∀ W, Below (w.heap.size + 2) ((w.alloc (.cells #[.int .i64 a, .int .i64 b] 23)).alloc (.cells #[.int .i64 c, .int .i64 d] 23)) W → W.cell? ⟨w.heap.size, 1, none⟩ = some (.int .i64 b) := fun _ h => (boxes h).2.1
  have k2 : ∀ W, Below (w.heap.size + 2) ((w.alloc (.cells #[.int .i64 a, .int .i64 b] 23)).alloc (.cells #[.int .i64 c, .int .i64 d] 23)) W → W.cell? ⟨w.heap.size + 1, 0, none⟩ = some (.int .i64 c) := fun _ h => (boxes h).2.2.1
  have k3 : ∀ W, Below (w.heap.size + 2) ((w.alloc (.cells #[.int .i64 a, .int .i64 b] 23)).alloc (.cells #[.int .i64 c, .int .i64 d] 23)) W → W.cell? ⟨w.heap.size + 1, 1, none⟩ = some (.int .i64 d) := fun _ h => (boxes h).2.2.2
  have hR0 : Below (w.heap.size + 2) ((w.alloc (.cells #[.int .i64 a, .int .i64 b] 23)).alloc (.cells #[.int .i64 c, .int .i64 d] 23)) ((w.alloc (.cells #[.int .i64 a, .int .i64 b] 23)).alloc (.cells #[.int .i64 c, .int .i64 d] 23)) := Below.refl _ _
  go_enter Try.func6, Try.ntmps6
  go_wp2_with fail
  go_cut [5] (fun p wx => ∃ k : Nat, p = .pointer (some ⟨k, 0, none⟩) ∧ w.heap.size + 2 ≤ k ∧ k < wx.heap.size ∧ Below (w.heap.size + 2) ((w.alloc (.cells #[.int .i64 a, .int .i64 b] 23)).alloc (.cells #[.int .i64 c, .int .i64 d] 23)) wx ∧ wx.cell? ⟨k, 0, none⟩ = some (.int .i64 (quC a b c d (a * d) (b * c))) ∧ wx.cell? ⟨k, 1, none⟩ = some (.int .i64 (quN a b c d (a * d) (b * c))) ∧ wx.cell? ⟨k, 2, none⟩ = some (.int .i64 (quD a b c d (a * d) (b * c))))
  case first =>
    go_region_held3 (fun W => Below (w.heap.size + 2) ((w.alloc (.cells #[.int .i64 a, .int .i64 b] 23)).alloc (.cells #[.int .i64 c, .int .i64 d] 23)) W) (go_grown)
      (first | (go_at_call 9; refine (toFrac_any _ _ _).mono ?_; rintro e w1 ⟨rfl, hb1⟩; have hs1 := hb1.size; (try simp at hs1); have hR1 : Below (w.heap.size + 2) ((w.alloc (.cells #[.int .i64 a, .int .i64 b] 23)).alloc (.cells #[.int .i64 c, .int .i64 d] 23)) w1 := (by refine box_step ?_ hb1 (by simp); go_grown); (first | (have hZ := box_step hZ hb1 (Nat.le_refl _)) | (have hZ := hb1)); obtain ⟨ho1, hf1, hz1⟩ := olds hZ) | (go_at_call 16; refine (sdiv _ _ _ _ _).mono ?_; rintro e w1 ⟨rfl, hb1⟩; have hs1 := hb1.size; (try simp at hs1); have hR1 : Below (w.heap.size + 2) ((w.alloc (.cells #[.int .i64 a, .int .i64 b] 23)).alloc (.cells #[.int .i64 c, .int .i64 d] 23)) w1 := (by refine box_step ?_ hb1 (by simp); go_grown); (first | (have hZ := box_step hZ hb1 (Nat.le_refl _)) | (have hZ := hb1)); obtain ⟨ho1, hf1, hz1⟩ := olds hZ))
    all_goals
      go_wp2_with fail
      go_meet
      case rel =>
        refine ⟨_, rfl, ?_, ?_, ?_, ?_, ?_, ?_⟩
        · omega
        · simp [World.setCell] <;> omega
        · go_grown
        · go_simp
        · go_simp
        · go_simp
  case rest =>
    obtain ⟨k, rfl, hk1, hk2, hB, c0, c1, c2⟩ := hcut
    obtain ⟨b0, b1, b2, b3⟩ := boxes hB
    have HO : Hid (Below w.heap.size w wc) := by
      refine Below.trans ?_ (hB.mono (by omega))
      go_grown
    clear k0 k1 k2 k3 hR0 hB
    have k0 : ∀ W, Below wc.heap.size wc W → W.cell? ⟨w.heap.size, 0, none⟩ = some (.int .i64 a) := fun _ h => old_cell h (by simp; omega) b0
    have k1 : ∀ W, Below wc.heap.size wc W → W.cell? ⟨w.heap.size, 1, none⟩ = some (.int .i64 b) := fun _ h => old_cell h (by simp; omega) b1
    have k2 : ∀ W, Below wc.heap.size wc W → W.cell? ⟨w.heap.size + 1, 0, none⟩ = some (.int .i64 c) := fun _ h => old_cell h (by simp; omega) b2
    have k3 : ∀ W, Below wc.heap.size wc W → W.cell? ⟨w.heap.size + 1, 1, none⟩ = some (.int .i64 d) := fun _ h => old_cell h (by simp; omega) b3
    have hR0 : Below wc.heap.size wc wc := Below.refl _ _
    have C0 : Hid (wc.cell? ⟨k, 0, none⟩ = some (.int .i64 (quC a b c d (a * d) (b * c)))) := c0
    have C1 : Hid (wc.cell? ⟨k, 1, none⟩ = some (.int .i64 (quN a b c d (a * d) (b * c)))) := c1
    have C2 : Hid (wc.cell? ⟨k, 2, none⟩ = some (.int .i64 (quD a b c d (a * d) (b * c)))) := c2
    clear b0 b1 b2 b3 c0 c1 c2
    obtain ⟨v, hv⟩ : ∃ v, v = wc := ⟨_, rfl⟩
    subst hv
    go_wp2_with fail
    go_cut [6] (fun p wx => ∃ j : Nat, p = .pointer (some ⟨j, 0, none⟩) ∧ v.heap.size ≤ j ∧ j < wx.heap.size ∧ Below v.heap.size v wx ∧ wx.cell? ⟨j, 0, none⟩ = some (.int .i64 (quC a b c d (a * d) (b * c))) ∧ wx.cell? ⟨j, 1, none⟩ = some (.int .i64 (quN a b c d (a * d) (b * c))) ∧ wx.cell? ⟨j, 2, none⟩ = some (.int .i64 (quD a b c d (a * d) (b * c))))
    case first =>
      go_region_held3 (fun W => Below v.heap.size v W) (go_grown)
        (first | (go_at_call 9; refine (toFrac_any _ _ _).mono ?_; rintro e w1 ⟨rfl, hb1⟩; have hs1 := hb1.size; (try simp at hs1); have hR1 : Below v.heap.size v w1 := (by refine box_step ?_ hb1 (Nat.le_refl _); go_grown); (first | (have hZ := box_step hZ hb1 (Nat.le_refl _)) | (have hZ := hb1)); obtain ⟨ho1, hf1, hz1⟩ := olds hZ) | (go_at_call 17; refine (idiv _ _ _ _ _).mono ?_; rintro e w1 ⟨rfl, hb1⟩; have hs1 := hb1.size; (try simp at hs1); have hR1 : Below v.heap.size v w1 := (by refine box_step ?_ hb1 (Nat.le_refl _); go_grown); (first | (have hZ := box_step hZ hb1 (Nat.le_refl _)) | (have hZ := hb1)); obtain ⟨ho1, hf1, hz1⟩ := olds hZ))
      all_goals
        go_wp2_with fail
        go_meet
        case rel =>
          refine ⟨_, rfl, ?_, ?_, ?_, ?_, ?_, ?_⟩
          · omega
          · simp [World.setCell] <;> omega
          · go_grown
          · go_simp
          · go_simp
          · go_simp
    case rest =>
      obtain ⟨j, rfl, hj1, hj2, hB, d0, d1, d2⟩ := hcut
      have c0 := old_cell hB (by simp; omega) C0.out
      have c1 := old_cell hB (by simp; omega) C1.out
      have c2 := old_cell hB (by simp; omega) C2.out
      have H2 : Hid (Below w.heap.size w wc) := box_step HO.out hB (Nat.le_refl _)
      clear k0 k1 k2 k3 hR0 hB HO C0 C1 C2
      go_wp2_with fail
      refine (eqRes_same _ _ _ _).mono ?_
      rintro e w3 ⟨rfl, hb3⟩
      have H3 : Below w.heap.size w w3 := box_step H2.out hb3 (Nat.le_refl _)
      clear hb3 H2
      go_wp2
      go_ret
      exact ⟨rfl, H3⟩

set_option maxRecDepth 100000 in
theorem lifted (os : Os) (started : os.Started) (H : Type) (enc : TypeId × Value → H) :
    ReturnsInHanded {} Try.checked os 6 .any (Rows.fnExactDivFracSpec.pre6 enc Try.prog Try.f6 Rows.fnExactDivFracRow.domain false) (Rows.fnExactDivFracSpec.post enc Try.prog Try.f6 false true false false) := by
  refine returnsInHanded_of_change (C := Try.checked) own started (by kernel_rfl) Try.func6
    (ChangeSpec.witness6 (enc := enc) (C := Try.checked) false ⟨#[], #[.agg #[.int .i64 0, .int .i64 0], .agg #[.int .i64 0, .int .i64 0]], []⟩ 8 (by kernel_rfl) (by kernel_rfl) (by kernel_rfl) (by kernel_rfl)) ?_
  intro W base args ds gs before hval0 hW hcnd _
  have hval : ∀ (j : Nat) t v, Try.f6.params[j]? = some t → args[j]? = some v → Value.okWide Try.prog W .any base t v := hval0
  have hW' := hW
  obtain ⟨p, q, hA0, hV, rfl, hfz, hnd⟩ := hW
  have hA : DataW.TrodAll enc Try.prog W 0 (fun _ => true) true Try.f6.params.toList args.toList ds p := hA0
  rw [Try.params6] at hA hval
  obtain ⟨v0, vs0, d0, ds0, p0, q0, hargs, rfl, rfl, h0, r0⟩ := trodAll_cons hA
  obtain ⟨v1, vs1, d1, ds1, p1, q1, rfl, rfl, rfl, h1, r1⟩ := trodAll_cons r0
  obtain ⟨rfl, rfl, rfl⟩ := trodAll_nil r1
  obtain rfl : args = #[v0, v1] := by cases args; simp_all
  obtain ⟨rfl, rfl⟩ := trodVars_none hV
  have k0 := h0
  have lt0 : ∀ x ∈ p0, x.block < W.heap.size := by obtain ⟨m, hm⟩ := k0; exact DataW.trod_lt m _ _ _ hm
  obtain ⟨n0, m0, rfl, _, _⟩ := open_frac (hval 0 23 v0 rfl rfl) h0
  have k1 := h1
  have lt1 : ∀ x ∈ p1, x.block < W.heap.size := by obtain ⟨m, hm⟩ := k1; exact DataW.trod_lt m _ _ _ hm
  obtain ⟨n1, m1, rfl, _, _⟩ := open_frac (hval 1 23 v1 rfl rfl) h1
  clear hA0 hval0
  refine (walk n0 m0 n1 m1 W).mono fun e W' ⟨he, bel⟩ => ?_
  subst he
  exact ⟨_, rfl, _, _, _, [], _, [], hW', trodAll_mk1 (shut_bool Try.underlying4 _), (trodAll_cons_mk (Below.trod laidOut (by kernel_rfl) (of_decide_eq_true (by kernel_rfl)) k0 bel lt0) (trodAll_cons_mk (Below.trod laidOut (by kernel_rfl) (of_decide_eq_true (by kernel_rfl)) k1 bel lt1) trodAll_mk0)), rfl, bel.frame _, fun h => by cases h⟩

theorem over : Rows.fnExactDivFracRow.holds Try.pinned (OpenSpec.ofChange Rows.fnExactDivFracSpec) :=
  OpenClaim.holds_of_wide 6 Try.f6 rfl rfl rfl rfl rfl rfl rfl ⟨rfl, rfl, rfl, rfl, rfl⟩ rfl rfl rfl rfl rfl (by kernel_rfl) Try.func6 (by kernel_rfl)
    (of_decide_eq_true (by kernel_rfl)) (by unfold Func.isWrapper; first | (rw [if_pos (by decide +kernel)]; kernel_rfl) | (rw [if_neg (by decide +kernel)]; exact ⟨rfl, rfl⟩))
    (fun os started H enc _ => lifted os started H enc)
end Go.Proofs.Ytcniomijhflakaa.LawDivFrac
namespace Go.Proofs.Ytcniomijhflakaa
theorem divFrac_holds : Rows.FnExactDivFracSaid := LawDivFrac.over
#print axioms divFrac_holds
end Go.Proofs.Ytcniomijhflakaa
