/- At every plate and light the program's PassJones answers as the specification, number by number; nothing that was there is changed. -/
import Derived.Test.YtloebnlmeplgbaaPq
import Derived.Test.YtloebnlmeplgbaaTl
import Derived.Test.YtloebnlmeplgbaaOz
import Derived.Handy
import Derived.Deep.RegionHeld3
import Derived.Deep.DeepCutAuto
namespace Go.Proofs.Ytloebnlmeplgbaa.LawPassJones
open Go.ChangeShapes Go.WideShapes Go.ChangeAt Go.RowKit Go.Joins
set_option linter.unusedVariables false

set_option maxRecDepth 20000 in
set_option maxHeartbeats 3200000 in
theorem walk (a : Pl) (b : Jn) (w : World) : Calls Try.prog 7 #[.agg #[.int .i64 a.a.re, .int .i64 a.a.im, .int .i64 a.b.re, .int .i64 a.b.im, .int .i64 a.c.re, .int .i64 a.c.im, .int .i64 a.d.re, .int .i64 a.d.im], .agg #[.int .i64 b.x.re, .int .i64 b.x.im, .int .i64 b.y.re, .int .i64 b.y.im]] w fun e w' => e = .returned (.bool true) ∧ Below w.heap.size w w' := by
  go_enter Try.func7, Try.ntmps7
  have HO : Hid (Below w.heap.size w w) := Below.refl _ _
  go_upto_region 1 with fail
  obtain ⟨v1, hv⟩ : ∃ Xw, Xw = ((w.alloc (.cells #[.int .i64 a.a.re, .int .i64 a.a.im, .int .i64 a.b.re, .int .i64 a.b.im, .int .i64 a.c.re, .int .i64 a.c.im, .int .i64 a.d.re, .int .i64 a.d.im] 54)).alloc (.cells #[.int .i64 b.x.re, .int .i64 b.x.im, .int .i64 b.y.re, .int .i64 b.y.im] 49)) := ⟨_, rfl⟩
  rw [← hv]
  have ne_a_b : Hid (w.heap.size ≠ w.heap.size + 1) := by show (w.heap.size : Nat) ≠ w.heap.size + 1; omega
  have B_a : Hid (Blk v1 (w.heap.size) #[.int .i64 a.a.re, .int .i64 a.a.im, .int .i64 a.b.re, .int .i64 a.b.im, .int .i64 a.c.re, .int .i64 a.c.im, .int .i64 a.d.re, .int .i64 a.d.im] 54) := by show Blk v1 (w.heap.size) _ _; rw [hv]; exact (Blk.alloc (Blk.new (by simp)) _)
  have low_a : Hid (w.heap.size ≤ w.heap.size) := by show w.heap.size ≤ w.heap.size; have := HO.out.size; omega
  have B_b : Hid (Blk v1 (w.heap.size + 1) #[.int .i64 b.x.re, .int .i64 b.x.im, .int .i64 b.y.re, .int .i64 b.y.im] 49) := by show Blk v1 (w.heap.size + 1) _ _; rw [hv]; exact (Blk.new (by simp))
  have low_b : Hid (w.heap.size ≤ w.heap.size + 1) := by show w.heap.size ≤ w.heap.size + 1; have := HO.out.size; omega
  replace HO : Hid (Below w.heap.size w v1) := by show Below w.heap.size w v1; rw [hv]; exact (below_new (below_new HO.out _) _)
  clear hv
  have k_a_0 : ∀ W, Below v1.heap.size v1 W → W.cell? ⟨w.heap.size, 0, none⟩ = some (.int .i64 a.a.re) := fun _ h => kold h (B_a.out.cell (j := 0) rfl)
  have k_a_1 : ∀ W, Below v1.heap.size v1 W → W.cell? ⟨w.heap.size, 1, none⟩ = some (.int .i64 a.a.im) := fun _ h => kold h (B_a.out.cell (j := 1) rfl)
  have k_a_2 : ∀ W, Below v1.heap.size v1 W → W.cell? ⟨w.heap.size, 2, none⟩ = some (.int .i64 a.b.re) := fun _ h => kold h (B_a.out.cell (j := 2) rfl)
  have k_a_3 : ∀ W, Below v1.heap.size v1 W → W.cell? ⟨w.heap.size, 3, none⟩ = some (.int .i64 a.b.im) := fun _ h => kold h (B_a.out.cell (j := 3) rfl)
  have k_a_4 : ∀ W, Below v1.heap.size v1 W → W.cell? ⟨w.heap.size, 4, none⟩ = some (.int .i64 a.c.re) := fun _ h => kold h (B_a.out.cell (j := 4) rfl)
  have k_a_5 : ∀ W, Below v1.heap.size v1 W → W.cell? ⟨w.heap.size, 5, none⟩ = some (.int .i64 a.c.im) := fun _ h => kold h (B_a.out.cell (j := 5) rfl)
  have k_a_6 : ∀ W, Below v1.heap.size v1 W → W.cell? ⟨w.heap.size, 6, none⟩ = some (.int .i64 a.d.re) := fun _ h => kold h (B_a.out.cell (j := 6) rfl)
  have k_a_7 : ∀ W, Below v1.heap.size v1 W → W.cell? ⟨w.heap.size, 7, none⟩ = some (.int .i64 a.d.im) := fun _ h => kold h (B_a.out.cell (j := 7) rfl)
  have k_b_0 : ∀ W, Below v1.heap.size v1 W → W.cell? ⟨w.heap.size + 1, 0, none⟩ = some (.int .i64 b.x.re) := fun _ h => kold h (B_b.out.cell (j := 0) rfl)
  have k_b_1 : ∀ W, Below v1.heap.size v1 W → W.cell? ⟨w.heap.size + 1, 1, none⟩ = some (.int .i64 b.x.im) := fun _ h => kold h (B_b.out.cell (j := 1) rfl)
  have k_b_2 : ∀ W, Below v1.heap.size v1 W → W.cell? ⟨w.heap.size + 1, 2, none⟩ = some (.int .i64 b.y.re) := fun _ h => kold h (B_b.out.cell (j := 2) rfl)
  have k_b_3 : ∀ W, Below v1.heap.size v1 W → W.cell? ⟨w.heap.size + 1, 3, none⟩ = some (.int .i64 b.y.im) := fun _ h => kold h (B_b.out.cell (j := 3) rfl)
  have hR0 : Below v1.heap.size v1 v1 := Below.refl _ _
  go_wp2_with fail
  go_cut [5] (fun pz wx => ∃ (kx : Nat), pz = .pointer (some ⟨kx, 0, none⟩) ∧ v1.heap.size ≤ kx ∧ Below v1.heap.size v1 wx ∧ Blk wx kx #[.int .i64 (rcode a b), .int .i64 ((rjon a b).x.re), .int .i64 ((rjon a b).x.im), .int .i64 ((rjon a b).y.re), .int .i64 ((rjon a b).y.im)] 33)
  case first =>
    go_region_held3 (fun W => Below v1.heap.size v1 W) (go_grown) (first | (go_at_call 32; refine (toP_any a _).mono ?_; rintro e wz ⟨rfl, hb1⟩; have hs1 := hb1.size; (try simp at hs1); have hR1 : Below v1.heap.size v1 wz := (by refine box_step ?_ hb1 (by go_size); go_grown); (first | (have hZ := box_step hZ hb1 (Nat.le_refl _)) | (have hZ := hb1)); obtain ⟨ho1, hf1, hz1⟩ := olds hZ) | (go_at_call 29; refine (toJ_any b _).mono ?_; rintro e wz ⟨rfl, hb1⟩; have hs1 := hb1.size; (try simp at hs1); have hR1 : Below v1.heap.size v1 wz := (by refine box_step ?_ hb1 (by go_size); go_grown); (first | (have hZ := box_step hZ hb1 (Nat.le_refl _)) | (have hZ := hb1)); obtain ⟨ho1, hf1, hz1⟩ := olds hZ) | (go_at_call 18; refine (spj a b _).mono ?_; rintro e wz ⟨rfl, hb1⟩; have hs1 := hb1.size; (try simp at hs1); have hR1 : Below v1.heap.size v1 wz := (by refine box_step ?_ hb1 (by go_size); go_grown); (first | (have hZ := box_step hZ hb1 (Nat.le_refl _)) | (have hZ := hb1)); obtain ⟨ho1, hf1, hz1⟩ := olds hZ))
    all_goals
      go_wp2_with fail
      go_meet
      case rel =>
        refine ⟨_, rfl, ?_, ?_, ?_⟩
        · omega
        · go_grown
        · first | with_reducible exact Blk.new rfl | with_reducible exact Blk.new (by simp) | exact (Blk.set (cs := #[.int .i64 (rcode a b), .int .i64 ((rjon a b).x.re), .int .i64 ((rjon a b).x.im), .int .i64 ((rjon a b).y.re), .int .i64 0]) (Blk.set (cs := #[.int .i64 (rcode a b), .int .i64 ((rjon a b).x.re), .int .i64 ((rjon a b).x.im), .int .i64 0, .int .i64 0]) (Blk.set (cs := #[.int .i64 (rcode a b), .int .i64 ((rjon a b).x.re), .int .i64 0, .int .i64 0, .int .i64 0]) (Blk.set (cs := #[.int .i64 (rcode a b), .int .i64 0, .int .i64 0, .int .i64 0, .int .i64 0]) (Blk.set (cs := #[.int .i64 0, .int .i64 0, .int .i64 0, .int .i64 0, .int .i64 0]) (newOld hZ) _ _ rfl) _ _ rfl) _ _ rfl) _ _ rfl) _ _ rfl) | exact (Blk.set (cs := #[.int .i64 (rcode a b), .int .i64 ((rjon a b).x.re), .int .i64 ((rjon a b).x.im), .int .i64 ((rjon a b).y.re), .int .i64 0]) (Blk.set (cs := #[.int .i64 (rcode a b), .int .i64 ((rjon a b).x.re), .int .i64 ((rjon a b).x.im), .int .i64 0, .int .i64 0]) (Blk.set (cs := #[.int .i64 (rcode a b), .int .i64 ((rjon a b).x.re), .int .i64 0, .int .i64 0, .int .i64 0]) (Blk.set (cs := #[.int .i64 (rcode a b), .int .i64 0, .int .i64 0, .int .i64 0, .int .i64 0]) (Blk.set (cs := #[.int .i64 0, .int .i64 0, .int .i64 0, .int .i64 0, .int .i64 0]) (Blk.old (Blk.drew (Blk.new rfl)) hZ) _ _ rfl) _ _ rfl) _ _ rfl) _ _ rfl) _ _ rfl)
  case rest =>
    obtain ⟨k3, rfl, hk1, hB, hN⟩ := hcut
    clear k_a_0 k_a_1 k_a_2 k_a_3 k_a_4 k_a_5 k_a_6 k_a_7 k_b_0 k_b_1 k_b_2 k_b_3 hR0
    obtain ⟨u2, hv⟩ : ∃ v, v = wc := ⟨_, rfl⟩
    subst hv
    have ne_a_s0 : Hid (w.heap.size ≠ k3) := Nat.ne_of_lt (Nat.lt_of_lt_of_le B_a.out.lt hk1)
    replace B_a : Hid (Blk u2 (w.heap.size) #[.int .i64 a.a.re, .int .i64 a.a.im, .int .i64 a.b.re, .int .i64 a.b.im, .int .i64 a.c.re, .int .i64 a.c.im, .int .i64 a.d.re, .int .i64 a.d.im] 54) := by show Blk u2 (w.heap.size) _ _; exact Blk.old B_a.out hB
    have ne_b_s0 : Hid (w.heap.size + 1 ≠ k3) := Nat.ne_of_lt (Nat.lt_of_lt_of_le B_b.out.lt hk1)
    replace B_b : Hid (Blk u2 (w.heap.size + 1) #[.int .i64 b.x.re, .int .i64 b.x.im, .int .i64 b.y.re, .int .i64 b.y.im] 49) := by show Blk u2 (w.heap.size + 1) _ _; exact Blk.old B_b.out hB
    have B_s0 : Hid (Blk u2 (k3) #[.int .i64 (rcode a b), .int .i64 ((rjon a b).x.re), .int .i64 ((rjon a b).x.im), .int .i64 ((rjon a b).y.re), .int .i64 ((rjon a b).y.im)] 33) := hN
    have low_s0 : Hid (w.heap.size ≤ k3) := Nat.le_trans HO.out.size hk1
    replace HO : Hid (Below w.heap.size w u2) := HO.out.trans (hB.mono HO.out.size)
    clear hB hk1 hN
    go_upto_region 2 with fail
    have k_a_0 : ∀ W, Below u2.heap.size u2 W → W.cell? ⟨w.heap.size, 0, none⟩ = some (.int .i64 a.a.re) := fun _ h => kold h (B_a.out.cell (j := 0) rfl)
    have k_a_1 : ∀ W, Below u2.heap.size u2 W → W.cell? ⟨w.heap.size, 1, none⟩ = some (.int .i64 a.a.im) := fun _ h => kold h (B_a.out.cell (j := 1) rfl)
    have k_a_2 : ∀ W, Below u2.heap.size u2 W → W.cell? ⟨w.heap.size, 2, none⟩ = some (.int .i64 a.b.re) := fun _ h => kold h (B_a.out.cell (j := 2) rfl)
    have k_a_3 : ∀ W, Below u2.heap.size u2 W → W.cell? ⟨w.heap.size, 3, none⟩ = some (.int .i64 a.b.im) := fun _ h => kold h (B_a.out.cell (j := 3) rfl)
    have k_a_4 : ∀ W, Below u2.heap.size u2 W → W.cell? ⟨w.heap.size, 4, none⟩ = some (.int .i64 a.c.re) := fun _ h => kold h (B_a.out.cell (j := 4) rfl)
    have k_a_5 : ∀ W, Below u2.heap.size u2 W → W.cell? ⟨w.heap.size, 5, none⟩ = some (.int .i64 a.c.im) := fun _ h => kold h (B_a.out.cell (j := 5) rfl)
    have k_a_6 : ∀ W, Below u2.heap.size u2 W → W.cell? ⟨w.heap.size, 6, none⟩ = some (.int .i64 a.d.re) := fun _ h => kold h (B_a.out.cell (j := 6) rfl)
    have k_a_7 : ∀ W, Below u2.heap.size u2 W → W.cell? ⟨w.heap.size, 7, none⟩ = some (.int .i64 a.d.im) := fun _ h => kold h (B_a.out.cell (j := 7) rfl)
    have k_b_0 : ∀ W, Below u2.heap.size u2 W → W.cell? ⟨w.heap.size + 1, 0, none⟩ = some (.int .i64 b.x.re) := fun _ h => kold h (B_b.out.cell (j := 0) rfl)
    have k_b_1 : ∀ W, Below u2.heap.size u2 W → W.cell? ⟨w.heap.size + 1, 1, none⟩ = some (.int .i64 b.x.im) := fun _ h => kold h (B_b.out.cell (j := 1) rfl)
    have k_b_2 : ∀ W, Below u2.heap.size u2 W → W.cell? ⟨w.heap.size + 1, 2, none⟩ = some (.int .i64 b.y.re) := fun _ h => kold h (B_b.out.cell (j := 2) rfl)
    have k_b_3 : ∀ W, Below u2.heap.size u2 W → W.cell? ⟨w.heap.size + 1, 3, none⟩ = some (.int .i64 b.y.im) := fun _ h => kold h (B_b.out.cell (j := 3) rfl)
    have hR0 : Below u2.heap.size u2 u2 := Below.refl _ _
    go_wp2_with fail
    go_cut [6] (fun pz wx => ∃ (kx : Nat), pz = .pointer (some ⟨kx, 0, none⟩) ∧ u2.heap.size ≤ kx ∧ Below u2.heap.size u2 wx ∧ Blk wx kx #[.int .i64 (rcode a b), .int .i64 ((rjon a b).x.re), .int .i64 ((rjon a b).x.im), .int .i64 ((rjon a b).y.re), .int .i64 ((rjon a b).y.im)] 33)
    case first =>
      go_region_held3 (fun W => Below u2.heap.size u2 W) (go_grown) (first | (go_at_call 32; refine (toP_any a _).mono ?_; rintro e wz ⟨rfl, hb1⟩; have hs1 := hb1.size; (try simp at hs1); have hR1 : Below u2.heap.size u2 wz := (by refine box_step ?_ hb1 (by go_size); go_grown); (first | (have hZ := box_step hZ hb1 (Nat.le_refl _)) | (have hZ := hb1)); obtain ⟨ho1, hf1, hz1⟩ := olds hZ) | (go_at_call 29; refine (toJ_any b _).mono ?_; rintro e wz ⟨rfl, hb1⟩; have hs1 := hb1.size; (try simp at hs1); have hR1 : Below u2.heap.size u2 wz := (by refine box_step ?_ hb1 (by go_size); go_grown); (first | (have hZ := box_step hZ hb1 (Nat.le_refl _)) | (have hZ := hb1)); obtain ⟨ho1, hf1, hz1⟩ := olds hZ) | (go_at_call 19; refine (ipj a b _).mono ?_; rintro e wz ⟨rfl, hb1⟩; have hs1 := hb1.size; (try simp at hs1); have hR1 : Below u2.heap.size u2 wz := (by refine box_step ?_ hb1 (by go_size); go_grown); (first | (have hZ := box_step hZ hb1 (Nat.le_refl _)) | (have hZ := hb1)); obtain ⟨ho1, hf1, hz1⟩ := olds hZ))
      all_goals
        go_wp2_with fail
        go_meet
        case rel =>
          refine ⟨_, rfl, ?_, ?_, ?_⟩
          · omega
          · go_grown
          · first | with_reducible exact Blk.new rfl | with_reducible exact Blk.new (by simp) | exact (Blk.set (cs := #[.int .i64 (rcode a b), .int .i64 ((rjon a b).x.re), .int .i64 ((rjon a b).x.im), .int .i64 ((rjon a b).y.re), .int .i64 0]) (Blk.set (cs := #[.int .i64 (rcode a b), .int .i64 ((rjon a b).x.re), .int .i64 ((rjon a b).x.im), .int .i64 0, .int .i64 0]) (Blk.set (cs := #[.int .i64 (rcode a b), .int .i64 ((rjon a b).x.re), .int .i64 0, .int .i64 0, .int .i64 0]) (Blk.set (cs := #[.int .i64 (rcode a b), .int .i64 0, .int .i64 0, .int .i64 0, .int .i64 0]) (Blk.set (cs := #[.int .i64 0, .int .i64 0, .int .i64 0, .int .i64 0, .int .i64 0]) (newOld hZ) _ _ rfl) _ _ rfl) _ _ rfl) _ _ rfl) _ _ rfl) | exact (Blk.set (cs := #[.int .i64 (rcode a b), .int .i64 ((rjon a b).x.re), .int .i64 ((rjon a b).x.im), .int .i64 ((rjon a b).y.re), .int .i64 0]) (Blk.set (cs := #[.int .i64 (rcode a b), .int .i64 ((rjon a b).x.re), .int .i64 ((rjon a b).x.im), .int .i64 0, .int .i64 0]) (Blk.set (cs := #[.int .i64 (rcode a b), .int .i64 ((rjon a b).x.re), .int .i64 0, .int .i64 0, .int .i64 0]) (Blk.set (cs := #[.int .i64 (rcode a b), .int .i64 0, .int .i64 0, .int .i64 0, .int .i64 0]) (Blk.set (cs := #[.int .i64 0, .int .i64 0, .int .i64 0, .int .i64 0, .int .i64 0]) (Blk.old (Blk.drew (Blk.new rfl)) hZ) _ _ rfl) _ _ rfl) _ _ rfl) _ _ rfl) _ _ rfl)
    case rest =>
      obtain ⟨k5, rfl, hk1, hB, hN⟩ := hcut
      clear k_a_0 k_a_1 k_a_2 k_a_3 k_a_4 k_a_5 k_a_6 k_a_7 k_b_0 k_b_1 k_b_2 k_b_3 hR0
      obtain ⟨u4, hv⟩ : ∃ v, v = wc := ⟨_, rfl⟩
      subst hv
      have ne_a_g0 : Hid (w.heap.size ≠ k5) := Nat.ne_of_lt (Nat.lt_of_lt_of_le B_a.out.lt hk1)
      replace B_a : Hid (Blk u4 (w.heap.size) #[.int .i64 a.a.re, .int .i64 a.a.im, .int .i64 a.b.re, .int .i64 a.b.im, .int .i64 a.c.re, .int .i64 a.c.im, .int .i64 a.d.re, .int .i64 a.d.im] 54) := by show Blk u4 (w.heap.size) _ _; exact Blk.old B_a.out hB
      have ne_b_g0 : Hid (w.heap.size + 1 ≠ k5) := Nat.ne_of_lt (Nat.lt_of_lt_of_le B_b.out.lt hk1)
      replace B_b : Hid (Blk u4 (w.heap.size + 1) #[.int .i64 b.x.re, .int .i64 b.x.im, .int .i64 b.y.re, .int .i64 b.y.im] 49) := by show Blk u4 (w.heap.size + 1) _ _; exact Blk.old B_b.out hB
      have ne_s0_g0 : Hid (k3 ≠ k5) := Nat.ne_of_lt (Nat.lt_of_lt_of_le B_s0.out.lt hk1)
      replace B_s0 : Hid (Blk u4 (k3) #[.int .i64 (rcode a b), .int .i64 ((rjon a b).x.re), .int .i64 ((rjon a b).x.im), .int .i64 ((rjon a b).y.re), .int .i64 ((rjon a b).y.im)] 33) := by show Blk u4 (k3) _ _; exact Blk.old B_s0.out hB
      have B_g0 : Hid (Blk u4 (k5) #[.int .i64 (rcode a b), .int .i64 ((rjon a b).x.re), .int .i64 ((rjon a b).x.im), .int .i64 ((rjon a b).y.re), .int .i64 ((rjon a b).y.im)] 33) := hN
      have low_g0 : Hid (w.heap.size ≤ k5) := Nat.le_trans HO.out.size hk1
      replace HO : Hid (Below w.heap.size w u4) := HO.out.trans (hB.mono HO.out.size)
      clear hB hk1 hN
      have s0_0 := B_s0.out.cell (j := 0) rfl
      have s0_1 := B_s0.out.cell (j := 1) rfl
      have s0_2 := B_s0.out.cell (j := 2) rfl
      have s0_3 := B_s0.out.cell (j := 3) rfl
      have s0_4 := B_s0.out.cell (j := 4) rfl
      have s0_f := B_s0.out.frozen
      have s0_z := B_s0.out.lt
      have g0_0 := B_g0.out.cell (j := 0) rfl
      have g0_1 := B_g0.out.cell (j := 1) rfl
      have g0_2 := B_g0.out.cell (j := 2) rfl
      have g0_3 := B_g0.out.cell (j := 3) rfl
      have g0_4 := B_g0.out.cell (j := 4) rfl
      have g0_f := B_g0.out.frozen
      have g0_z := B_g0.out.lt
      go_wp2_with fail
      refine (eqJR_same _ _ _ _).mono ?_
      rintro e v6 ⟨rfl, hb⟩
      clear s0_0 s0_1 s0_2 s0_3 s0_4 s0_f s0_z g0_0 g0_1 g0_2 g0_3 g0_4 g0_f g0_z
      replace B_a : Hid (Blk v6 (w.heap.size) #[.int .i64 a.a.re, .int .i64 a.a.im, .int .i64 a.b.re, .int .i64 a.b.im, .int .i64 a.c.re, .int .i64 a.c.im, .int .i64 a.d.re, .int .i64 a.d.im] 54) := by show Blk v6 (w.heap.size) _ _; exact Blk.old B_a.out hb
      replace B_b : Hid (Blk v6 (w.heap.size + 1) #[.int .i64 b.x.re, .int .i64 b.x.im, .int .i64 b.y.re, .int .i64 b.y.im] 49) := by show Blk v6 (w.heap.size + 1) _ _; exact Blk.old B_b.out hb
      replace B_s0 : Hid (Blk v6 (k3) #[.int .i64 (rcode a b), .int .i64 ((rjon a b).x.re), .int .i64 ((rjon a b).x.im), .int .i64 ((rjon a b).y.re), .int .i64 ((rjon a b).y.im)] 33) := by show Blk v6 (k3) _ _; exact Blk.old B_s0.out hb
      replace B_g0 : Hid (Blk v6 (k5) #[.int .i64 (rcode a b), .int .i64 ((rjon a b).x.re), .int .i64 ((rjon a b).x.im), .int .i64 ((rjon a b).y.re), .int .i64 ((rjon a b).y.im)] 33) := by show Blk v6 (k5) _ _; exact Blk.old B_g0.out hb
      replace HO : Hid (Below w.heap.size w v6) := box_step HO.out hb (Nat.le_refl _)
      clear hb
      go_wp2
      go_ret
      exact ⟨rfl, HO.out⟩

set_option maxRecDepth 100000 in
theorem lifted (os : Os) (started : os.Started) (H : Type) (enc : TypeId × Value → H) :
    ReturnsInHanded {} Try.checked os 7 .any (Rows.fnExactPassJonesSpec.pre6 enc Try.prog Try.f7 Rows.fnExactPassJonesRow.domain false) (Rows.fnExactPassJonesSpec.post enc Try.prog Try.f7 false true false false) := by
  refine returnsInHanded_of_change (C := Try.checked) own started (by kernel_rfl) Try.func7
    (ChangeSpec.witness6 (enc := enc) (C := Try.checked) false ⟨#[], #[.agg #[.int .i64 0, .int .i64 0, .int .i64 0, .int .i64 0, .int .i64 0, .int .i64 0, .int .i64 0, .int .i64 0], .agg #[.int .i64 0, .int .i64 0, .int .i64 0, .int .i64 0]], []⟩ 8 (by kernel_rfl) (by kernel_rfl) (by kernel_rfl) (by kernel_rfl)) ?_
  intro W base args ds gs before hval0 hW hcnd _
  have hval : ∀ (j : Nat) t v, Try.f7.params[j]? = some t → args[j]? = some v → Value.okWide Try.prog W .any base t v := hval0
  have hW' := hW
  obtain ⟨p, q, hA0, hV, rfl, hfz, hnd⟩ := hW
  have hA : DataW.TrodAll enc Try.prog W 0 (fun _ => true) true Try.f7.params.toList args.toList ds p := hA0
  rw [Try.params7] at hA hval
  obtain ⟨v0, vs0, d0, ds0, p0, q0, hargs, rfl, rfl, h0, r0⟩ := trodAll_cons hA
  obtain ⟨v1, vs1, d1, ds1, p1, q1, rfl, rfl, rfl, h1, r1⟩ := trodAll_cons r0
  obtain ⟨rfl, rfl, rfl⟩ := trodAll_nil r1
  obtain rfl : args = #[v0, v1] := by cases args; simp_all
  obtain ⟨rfl, rfl⟩ := trodVars_none hV
  have k0 := h0
  have lt0 : ∀ x ∈ p0, x.block < W.heap.size := by obtain ⟨m, hm⟩ := k0; exact DataW.trod_lt m _ _ _ hm
  obtain ⟨a0, rfl⟩ := open_plate (hval 0 54 v0 rfl rfl) h0
  have k1 := h1
  have lt1 : ∀ x ∈ p1, x.block < W.heap.size := by obtain ⟨m, hm⟩ := k1; exact DataW.trod_lt m _ _ _ hm
  obtain ⟨a1, rfl⟩ := open_jones (hval 1 49 v1 rfl rfl) h1
  clear hA0 hval0
  refine (walk a0 a1 W).mono fun e W' ⟨he, bel⟩ => ?_
  subst he
  exact ⟨_, rfl, _, _, _, [], _, [], hW', trodAll_mk1 (shut_bool Try.underlying4 _), (trodAll_cons_mk (Below.trod laidOut (by kernel_rfl) (of_decide_eq_true (by kernel_rfl)) k0 bel lt0) (trodAll_cons_mk (Below.trod laidOut (by kernel_rfl) (of_decide_eq_true (by kernel_rfl)) k1 bel lt1) trodAll_mk0)), rfl, bel.frame _, fun h => by cases h⟩

theorem over : Rows.fnExactPassJonesRow.holds Try.pinned (OpenSpec.ofChange Rows.fnExactPassJonesSpec) :=
  OpenClaim.holds_of_wide 7 Try.f7 rfl rfl rfl rfl rfl rfl rfl ⟨rfl, rfl, rfl, rfl, rfl⟩ rfl rfl rfl rfl rfl (by kernel_rfl) Try.func7 (by kernel_rfl)
    (of_decide_eq_true (by kernel_rfl)) (by unfold Func.isWrapper; first | (rw [if_pos (by decide +kernel)]; kernel_rfl) | (rw [if_neg (by decide +kernel)]; exact ⟨rfl, rfl⟩))
    (fun os started H enc _ => lifted os started H enc)
end Go.Proofs.Ytloebnlmeplgbaa.LawPassJones
namespace Go.Proofs.Ytloebnlmeplgbaa
theorem passJones_holds : Rows.FnExactPassJonesSaid := LawPassJones.over
#print axioms passJones_holds
end Go.Proofs.Ytloebnlmeplgbaa
