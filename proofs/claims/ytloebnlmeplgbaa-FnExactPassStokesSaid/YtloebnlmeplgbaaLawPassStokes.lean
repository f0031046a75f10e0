/- At every list of rows and every four numbers the program's PassStokes answers as the specification, code and numbers, where the law's own bound on the sizes does not answer first; nothing that was there is changed. -/
import Derived.Test.YtloebnlmeplgbaaPs4
import Derived.Test.YtloebnlmeplgbaaTl
import Derived.Test.YtloebnlmeplgbaaEqs
import Derived.Test.YtloebnlmeplgbaaOz
import Derived.Handy
import Derived.Deep.RegionHeld3
import Derived.Deep.DeepCutAuto
namespace Go.Proofs.Ytloebnlmeplgbaa.LawPassStokes
open Go.ChangeShapes Go.WideShapes Go.ChangeAt Go.RowKit Go.Joins
set_option linter.unusedVariables false

set_option maxRecDepth 20000 in
set_option maxHeartbeats 6400000 in
theorem walk {w : World} {v : Value} {n : Nat} {L : Nat → Nat} {F : Rm.Mx} (h : RdMat w v n L F) (hn : n ≤ 9223372036854775807) (hL : ∀ i, i < n → L i ≤ 9223372036854775807) (a : Sk) :
    Calls Try.prog 14 #[v, .agg #[.int .i64 a.i, .int .i64 a.q, .int .i64 a.u, .int .i64 a.v]] w fun e w' => e = .returned (.bool true) ∧ Below w.heap.size w w' := by
  obtain ⟨ao, cap, rfl⟩ := mat_form h
  have H0 : Hid (RdMat w (.slice ao n cap) n L F) := h
  have HL : Hid (∀ i, i < n → L i ≤ 9223372036854775807) := hL
  clear h hL
  go_enter Try.func14, Try.ntmps14
  have HO : Hid (Below w.heap.size w w) := Below.refl _ _
  go_upto_region 2 with fail
  obtain ⟨v1, hv⟩ : ∃ Xw, Xw = (w.alloc (.cells #[.int .i64 a.i, .int .i64 a.q, .int .i64 a.u, .int .i64 a.v] 75)) := ⟨_, rfl⟩
  rw [← hv]
  have B_b : Hid (Blk v1 (w.heap.size) #[.int .i64 a.i, .int .i64 a.q, .int .i64 a.u, .int .i64 a.v] 75) := by show Blk v1 (w.heap.size) _ _; rw [hv]; exact (Blk.new (by simp))
  have low_b : Hid (w.heap.size ≤ w.heap.size) := by show w.heap.size ≤ w.heap.size; have := HO.out.size; omega
  replace H0 : Hid (RdMat v1 (.slice ao n cap) n L F) := by rw [hv]; exact H0.out.later (by go_grown)
  replace HO : Hid (Below w.heap.size w v1) := by show Below w.heap.size w v1; rw [hv]; exact (below_new HO.out _)
  clear hv
  go_wp2_with fail
  refine (szSS_any H0.out 1048576 (by omega) (by omega) hn HL.out).mono ?_
  rintro e wy ⟨r0, rfl, rfl, ht⟩
  have HT0 : Hid (Told n L 1048576 r0) := ht
  clear ht
  by_cases hr0 : r0 < 0
  · go_wp2
    go_ret
    exact ⟨rfl, HO.out⟩
  have hs0 : 0 ≤ r0 ∧ r0 + n + Sm L n = 1048576 := by rcases HT0.out with h | h <;> omega
  have HS : Hid (∀ i, i < n → L i ≤ 1000000000000) := fun i hi => by have := le_Sm (L := L) hi; omega
  have hm0 : Hid (n ≤ 1000000000000) := by show n ≤ _; omega
  have hr1 : ¬ (r0 < 0) := hr0
  clear HT0 HL hs0
  obtain ⟨c, hc⟩ : ∃ c, c = pcd n L F a := ⟨_, rfl⟩
  obtain ⟨m, hmm⟩ : ∃ m, m = psk n L F a := ⟨_, rfl⟩
  have SC : Hid (∀ W ao cap, RdMat W (.slice ao n cap) n L F → Calls Try.prog 23 #[.slice ao n cap, .agg #[.int .i64 a.i, .int .i64 a.q, .int .i64 a.u, .int .i64 a.v]] W fun e w' => e = .returned (.agg #[.int .i64 c, .int .i64 m.i, .int .i64 m.q, .int .i64 m.u, .int .i64 m.v]) ∧ Below W.heap.size W w') := fun W ao cap hs => by rw [hc, hmm]; exact sps a hs
  have IC : Hid (∀ W ao cap, RdMat W (.slice ao n cap) n L F → Calls Try.prog 24 #[.slice ao n cap, .agg #[.int .i64 a.i, .int .i64 a.q, .int .i64 a.u, .int .i64 a.v]] W fun e w' => e = .returned (.agg #[.int .i64 c, .int .i64 m.i, .int .i64 m.q, .int .i64 m.u, .int .i64 m.v]) ∧ Below W.heap.size W w') := fun W ao cap hs => by rw [hc, hmm]; exact ips a hs
  clear hc hmm
  go_upto_region 5 with fail
  have k_b_0 : ∀ W, Below v1.heap.size v1 W → W.cell? ⟨w.heap.size, 0, none⟩ = some (.int .i64 a.i) := fun _ h => kold h (B_b.out.cell (j := 0) rfl)
  have k_b_1 : ∀ W, Below v1.heap.size v1 W → W.cell? ⟨w.heap.size, 1, none⟩ = some (.int .i64 a.q) := fun _ h => kold h (B_b.out.cell (j := 1) rfl)
  have k_b_2 : ∀ W, Below v1.heap.size v1 W → W.cell? ⟨w.heap.size, 2, none⟩ = some (.int .i64 a.u) := fun _ h => kold h (B_b.out.cell (j := 2) rfl)
  have k_b_3 : ∀ W, Below v1.heap.size v1 W → W.cell? ⟨w.heap.size, 3, none⟩ = some (.int .i64 a.v) := fun _ h => kold h (B_b.out.cell (j := 3) rfl)
  have hR0 : Below v1.heap.size v1 v1 := Below.refl _ _
  go_wp2_with fail
  go_cut [6] (fun pz wx => ∃ (kx : Nat), pz = .pointer (some ⟨kx, 0, none⟩) ∧ v1.heap.size ≤ kx ∧ Below v1.heap.size v1 wx ∧ Blk wx kx #[.int .i64 c, .int .i64 m.i, .int .i64 m.q, .int .i64 m.u, .int .i64 m.v] 38)
  case first =>
    go_region_held3 (fun W => Below v1.heap.size v1 W) (go_grown) (first | (go_at_call 59; refine Calls.mono (toSS_any (H0.out.later (by first | with_reducible assumption | go_grown)) hm0.out HS.out) ?_; rintro e wm ⟨rfl, hmat, hb1⟩; have hs1 := hb1.size; (try simp at hs1); have hR1 : Below v1.heap.size v1 wm := (by refine box_step ?_ hb1 (by go_size); go_grown); (first | (have hZ := box_step hZ hb1 (Nat.le_refl _)) | (have hZ := hb1)); obtain ⟨ho1, hf1, hz1⟩ := olds hZ; have hmr := hmat.rd; (simp only [Lie.val, newLie, World.size_alloc, World.size_drew] at hmr); have HM : Hid (RdMat wm _ n L F) := hmr; clear hmat hmr) | (go_at_call 47; refine (toStokes_any a _).mono ?_; rintro e wz ⟨rfl, hb1⟩; have hs1 := hb1.size; (try simp at hs1); have hR1 : Below v1.heap.size v1 wz := (by refine box_step ?_ hb1 (by go_size); go_grown); (first | (have hZ := box_step hZ hb1 (Nat.le_refl _)) | (have hZ := hb1)); obtain ⟨ho1, hf1, hz1⟩ := olds hZ; have hMZ : Below wm.heap.size wm wz := (by refine box_step ?_ hb1 (by go_size); go_grown)) | (go_at_call 23; refine Calls.mono (SC.out _ _ _ (HM.out.later (by first | with_reducible assumption | go_grown))) ?_; rintro e wu ⟨rfl, hb1⟩; have hs1 := hb1.size; (try simp at hs1); have hR1 : Below v1.heap.size v1 wu := (by refine box_step ?_ hb1 (by go_size); go_grown); (first | (have hZ := box_step hZ hb1 (Nat.le_refl _)) | (have hZ := hb1)); obtain ⟨ho1, hf1, hz1⟩ := olds hZ))
    all_goals
      go_wp2_with fail
      go_meet
      case rel =>
        refine ⟨_, rfl, ?_, ?_, ?_⟩
        · omega
        · go_grown
        · first | with_reducible exact Blk.new rfl | with_reducible exact Blk.new (by simp) | exact (Blk.set (cs := #[.int .i64 c, .int .i64 m.i, .int .i64 m.q, .int .i64 m.u, .int .i64 0]) (Blk.set (cs := #[.int .i64 c, .int .i64 m.i, .int .i64 m.q, .int .i64 0, .int .i64 0]) (Blk.set (cs := #[.int .i64 c, .int .i64 m.i, .int .i64 0, .int .i64 0, .int .i64 0]) (Blk.set (cs := #[.int .i64 c, .int .i64 0, .int .i64 0, .int .i64 0, .int .i64 0]) (Blk.set (cs := #[.int .i64 0, .int .i64 0, .int .i64 0, .int .i64 0, .int .i64 0]) (newOld hZ) _ _ rfl) _ _ rfl) _ _ rfl) _ _ rfl) _ _ rfl) | exact (Blk.set (cs := #[.int .i64 c, .int .i64 m.i, .int .i64 m.q, .int .i64 m.u, .int .i64 0]) (Blk.set (cs := #[.int .i64 c, .int .i64 m.i, .int .i64 m.q, .int .i64 0, .int .i64 0]) (Blk.set (cs := #[.int .i64 c, .int .i64 m.i, .int .i64 0, .int .i64 0, .int .i64 0]) (Blk.set (cs := #[.int .i64 c, .int .i64 0, .int .i64 0, .int .i64 0, .int .i64 0]) (Blk.set (cs := #[.int .i64 0, .int .i64 0, .int .i64 0, .int .i64 0, .int .i64 0]) (Blk.old (Blk.drew (Blk.new rfl)) hZ) _ _ rfl) _ _ rfl) _ _ rfl) _ _ rfl) _ _ rfl)
  case rest =>
    obtain ⟨ks, rfl, hk1, hB, hN⟩ := hcut
    clear k_b_0 k_b_1 k_b_2 k_b_3 hR0
    obtain ⟨w5, hv⟩ : ∃ v, v = wc := ⟨_, rfl⟩
    subst hv
    have ne_b_s0 : Hid (w.heap.size ≠ ks) := Nat.ne_of_lt (Nat.lt_of_lt_of_le B_b.out.lt hk1)
    replace B_b : Hid (Blk w5 (w.heap.size) #[.int .i64 a.i, .int .i64 a.q, .int .i64 a.u, .int .i64 a.v] 75) := by show Blk w5 (w.heap.size) _ _; exact Blk.old B_b.out hB
    have B_s0 : Hid (Blk w5 ks #[.int .i64 c, .int .i64 m.i, .int .i64 m.q, .int .i64 m.u, .int .i64 m.v] 38) := hN
    have low_s0 : Hid (w.heap.size ≤ ks) := Nat.le_trans HO.out.size hk1
    replace H0 : Hid (RdMat w5 (.slice ao n cap) n L F) := H0.out.later hB
    replace HO : Hid (Below w.heap.size w w5) := HO.out.trans (hB.mono HO.out.size)
    clear hB hk1 hN
    go_wp2_with fail
    refine (toSS_any H0.out hm0.out HS.out).mono ?_
    rintro e v2 ⟨rfl, hmat, hb⟩
    replace B_b : Hid (Blk v2 (w.heap.size) #[.int .i64 a.i, .int .i64 a.q, .int .i64 a.u, .int .i64 a.v] 75) := by show Blk v2 (w.heap.size) _ _; exact Blk.old B_b.out hb
    replace B_s0 : Hid (Blk v2 (ks) #[.int .i64 c, .int .i64 m.i, .int .i64 m.q, .int .i64 m.u, .int .i64 m.v] 38) := by show Blk v2 (ks) _ _; exact Blk.old B_s0.out hb
    replace H0 : Hid (RdMat v2 (.slice ao n cap) n L F) := H0.out.later hb
    replace HO : Hid (Below w.heap.size w v2) := box_step HO.out hb (Nat.le_refl _)
    have SX : Hid (RdMat v2 (.slice (some ⟨w5.heap.size, 0, none⟩) n n) n L F) := hmat.rd
    clear hmat hb
    have b_0 := B_b.out.cell (j := 0) rfl
    have b_1 := B_b.out.cell (j := 1) rfl
    have b_2 := B_b.out.cell (j := 2) rfl
    have b_3 := B_b.out.cell (j := 3) rfl
    have b_f := B_b.out.frozen
    have b_z := B_b.out.lt
    go_wp2_with fail
    refine (toStokes_any a _).mono ?_
    rintro e v3 ⟨rfl, hb⟩
    clear b_0 b_1 b_2 b_3 b_f b_z
    replace B_b : Hid (Blk v3 (w.heap.size) #[.int .i64 a.i, .int .i64 a.q, .int .i64 a.u, .int .i64 a.v] 75) := by show Blk v3 (w.heap.size) _ _; exact Blk.old B_b.out hb
    replace B_s0 : Hid (Blk v3 (ks) #[.int .i64 c, .int .i64 m.i, .int .i64 m.q, .int .i64 m.u, .int .i64 m.v] 38) := by show Blk v3 (ks) _ _; exact Blk.old B_s0.out hb
    replace H0 : Hid (RdMat v3 (.slice ao n cap) n L F) := H0.out.later (box_step (B := v2.heap.size) (X := v2) (by go_grown) hb (Nat.le_refl _))
    replace SX : Hid (RdMat v3 (.slice (some ⟨w5.heap.size, 0, none⟩) n n) n L F) := SX.out.later (box_step (B := v2.heap.size) (X := v2) (by go_grown) hb (Nat.le_refl _))
    replace HO : Hid (Below w.heap.size w v3) := box_step HO.out hb (Nat.le_refl _)
    clear hb
    go_wp2_with fail
    refine (IC.out _ _ _ SX.out).mono ?_
    rintro e v4 ⟨rfl, hb⟩
    replace B_b : Hid (Blk v4 (w.heap.size) #[.int .i64 a.i, .int .i64 a.q, .int .i64 a.u, .int .i64 a.v] 75) := by show Blk v4 (w.heap.size) _ _; exact Blk.old B_b.out hb
    replace B_s0 : Hid (Blk v4 (ks) #[.int .i64 c, .int .i64 m.i, .int .i64 m.q, .int .i64 m.u, .int .i64 m.v] 38) := by show Blk v4 (ks) _ _; exact Blk.old B_s0.out hb
    replace H0 : Hid (RdMat v4 (.slice ao n cap) n L F) := H0.out.later (box_step (B := v3.heap.size) (X := v3) (by go_grown) hb (Nat.le_refl _))
    replace SX : Hid (RdMat v4 (.slice (some ⟨w5.heap.size, 0, none⟩) n n) n L F) := SX.out.later (box_step (B := v3.heap.size) (X := v3) (by go_grown) hb (Nat.le_refl _))
    replace HO : Hid (Below w.heap.size w v4) := box_step HO.out hb (Nat.le_refl _)
    clear hb
    go_upto_region 8 with fail
    obtain ⟨v5, hv⟩ : ∃ Xw, Xw = (v4.alloc (.cells #[.int .i64 c, .int .i64 m.i, .int .i64 m.q, .int .i64 m.u, .int .i64 m.v] 38)) := ⟨_, rfl⟩
    rw [← hv]
    have ne_b_g0 : Hid (w.heap.size ≠ v4.heap.size) := Nat.ne_of_lt (Nat.lt_of_lt_of_le B_b.out.lt (by omega))
    have ne_s0_g0 : Hid (ks ≠ v4.heap.size) := Nat.ne_of_lt (Nat.lt_of_lt_of_le B_s0.out.lt (by omega))
    have B_g0 : Hid (Blk v5 (v4.heap.size) #[.int .i64 c, .int .i64 m.i, .int .i64 m.q, .int .i64 m.u, .int .i64 m.v] 38) := by show Blk v5 (v4.heap.size) _ _; rw [hv]; exact (Blk.new (by simp))
    have low_g0 : Hid (w.heap.size ≤ v4.heap.size) := by show w.heap.size ≤ v4.heap.size; have := HO.out.size; omega
    replace B_b : Hid (Blk v5 (w.heap.size) #[.int .i64 a.i, .int .i64 a.q, .int .i64 a.u, .int .i64 a.v] 75) := by show Blk v5 (w.heap.size) _ _; rw [hv]; exact (Blk.alloc B_b.out _)
    replace B_s0 : Hid (Blk v5 (ks) #[.int .i64 c, .int .i64 m.i, .int .i64 m.q, .int .i64 m.u, .int .i64 m.v] 38) := by show Blk v5 (ks) _ _; rw [hv]; exact (Blk.alloc B_s0.out _)
    replace H0 : Hid (RdMat v5 (.slice ao n cap) n L F) := by rw [hv]; exact H0.out.later (by go_grown)
    replace SX : Hid (RdMat v5 (.slice (some ⟨w5.heap.size, 0, none⟩) n n) n L F) := by rw [hv]; exact SX.out.later (by go_grown)
    replace HO : Hid (Below w.heap.size w v5) := by show Below w.heap.size w v5; rw [hv]; exact (below_new HO.out _)
    clear hv
    have s0_0 := B_s0.out.cell (j := 0) rfl
    have s0_1 := B_s0.out.cell (j := 1) rfl
    have s0_2 := B_s0.out.cell (j := 2) rfl
    have s0_3 := B_s0.out.cell (j := 3) rfl
    have s0_4 := B_s0.out.cell (j := 4) rfl
    have s0_f := B_s0.out.frozen
    have s0_z := B_s0.out.lt
    have g0_0 := B_g0.out.cell (j := 0) rfl
    have g0_1 := B_g0.out.cell (j := 1) rfl
    have g0_2 := B_g0.out.cell (j := 2) rfl
    have g0_3 := B_g0.out.cell (j := 3) rfl
    have g0_4 := B_g0.out.cell (j := 4) rfl
    have g0_f := B_g0.out.frozen
    have g0_z := B_g0.out.lt
    go_wp2_with fail
    refine (eqSR_same c m _).mono ?_
    rintro e v6 ⟨rfl, hb⟩
    clear s0_0 s0_1 s0_2 s0_3 s0_4 s0_f s0_z g0_0 g0_1 g0_2 g0_3 g0_4 g0_f g0_z
    replace B_b : Hid (Blk v6 (w.heap.size) #[.int .i64 a.i, .int .i64 a.q, .int .i64 a.u, .int .i64 a.v] 75) := by show Blk v6 (w.heap.size) _ _; exact Blk.old B_b.out hb
    replace B_s0 : Hid (Blk v6 (ks) #[.int .i64 c, .int .i64 m.i, .int .i64 m.q, .int .i64 m.u, .int .i64 m.v] 38) := by show Blk v6 (ks) _ _; exact Blk.old B_s0.out hb
    replace B_g0 : Hid (Blk v6 (v4.heap.size) #[.int .i64 c, .int .i64 m.i, .int .i64 m.q, .int .i64 m.u, .int .i64 m.v] 38) := by show Blk v6 (v4.heap.size) _ _; exact Blk.old B_g0.out hb
    replace H0 : Hid (RdMat v6 (.slice ao n cap) n L F) := H0.out.later (box_step (B := v5.heap.size) (X := v5) (by go_grown) hb (Nat.le_refl _))
    replace SX : Hid (RdMat v6 (.slice (some ⟨w5.heap.size, 0, none⟩) n n) n L F) := SX.out.later (box_step (B := v5.heap.size) (X := v5) (by go_grown) hb (Nat.le_refl _))
    replace HO : Hid (Below w.heap.size w v6) := box_step HO.out hb (Nat.le_refl _)
    clear hb
    go_wp2_with fail
    refine (toSS_any H0.out hm0.out HS.out).mono ?_
    rintro e v7 ⟨rfl, hmat, hb⟩
    replace B_b : Hid (Blk v7 (w.heap.size) #[.int .i64 a.i, .int .i64 a.q, .int .i64 a.u, .int .i64 a.v] 75) := by show Blk v7 (w.heap.size) _ _; exact Blk.old B_b.out hb
    replace B_s0 : Hid (Blk v7 (ks) #[.int .i64 c, .int .i64 m.i, .int .i64 m.q, .int .i64 m.u, .int .i64 m.v] 38) := by show Blk v7 (ks) _ _; exact Blk.old B_s0.out hb
    replace B_g0 : Hid (Blk v7 (v4.heap.size) #[.int .i64 c, .int .i64 m.i, .int .i64 m.q, .int .i64 m.u, .int .i64 m.v] 38) := by show Blk v7 (v4.heap.size) _ _; exact Blk.old B_g0.out hb
    replace H0 : Hid (RdMat v7 (.slice ao n cap) n L F) := H0.out.later hb
    replace SX : Hid (RdMat v7 (.slice (some ⟨w5.heap.size, 0, none⟩) n n) n L F) := SX.out.later hb
    replace HO : Hid (Below w.heap.size w v7) := box_step HO.out hb (Nat.le_refl _)
    have SY : Hid (RdMat v7 (.slice (some ⟨v6.heap.size, 0, none⟩) n n) n L F) := hmat.rd
    clear hmat hb
    go_wp2_with fail
    refine (eqSS_any SX.out SY.out hm0.out HS.out).mono ?_
    rintro e wq ⟨rfl, qn, rfl⟩
    go_wp2
    go_ret
    exact ⟨rfl, below_drewN HO.out _⟩

set_option maxRecDepth 100000 in
theorem lifted (os : Os) (started : os.Started) (H : Type) (enc : TypeId × Value → H) :
    ReturnsInHanded {} Try.checked os 14 .any (Rows.fnExactPassStokesSpec.pre6 enc Try.prog Try.f14 Rows.fnExactPassStokesRow.domain false) (Rows.fnExactPassStokesSpec.post enc Try.prog Try.f14 false true false false) := by
  refine returnsInHanded_of_change (C := Try.checked) own started (by kernel_rfl) Try.func14
    (ChangeSpec.witness6 (enc := enc) (C := Try.checked) false ⟨#[], #[.slice none 0 0, .agg #[.int .i64 0, .int .i64 0, .int .i64 0, .int .i64 0]], []⟩ 8 (by kernel_rfl) (by kernel_rfl) (by kernel_rfl) (by kernel_rfl)) ?_
  intro W base args ds gs before hval0 hW hcnd _
  have hval : ∀ (j : Nat) t v, Try.f14.params[j]? = some t → args[j]? = some v → Value.okWide Try.prog W .any base t v := hval0
  have hW' := hW
  obtain ⟨p, q, hA0, hV, rfl, hfz, hnd⟩ := hW
  have hA : DataW.TrodAll enc Try.prog W 0 (fun _ => true) true Try.f14.params.toList args.toList ds p := hA0
  rw [Try.params14] at hA hval
  obtain ⟨v0, vs0, d0, ds0, p0, q0, hargs, rfl, rfl, h0, r0⟩ := trodAll_cons hA
  obtain ⟨v1, vs1, d1, ds1, p1, q1, rfl, rfl, rfl, h1, r1⟩ := trodAll_cons r0
  obtain ⟨rfl, rfl, rfl⟩ := trodAll_nil r1
  obtain rfl : args = #[v0, v1] := by cases args; simp_all
  obtain ⟨rfl, rfl⟩ := trodVars_none hV
  have k0 := h0
  have lt0 : ∀ x ∈ p0, x.block < W.heap.size := by obtain ⟨m, hm⟩ := k0; exact DataW.trod_lt m _ _ _ hm
  obtain ⟨n0, L0, F0, R0, nb0, lb0⟩ := open_mat (hval 0 40 v0 rfl rfl) h0
  have k1 := h1
  have lt1 : ∀ x ∈ p1, x.block < W.heap.size := by obtain ⟨m, hm⟩ := k1; exact DataW.trod_lt m _ _ _ hm
  obtain ⟨a1, rfl⟩ := open_stokes (hval 1 75 v1 rfl rfl) h1
  clear hA0 hval0
  refine (walk R0 nb0 lb0 a1).mono fun e W' ⟨he, bel⟩ => ?_
  subst he
  exact ⟨_, rfl, _, _, _, [], _, [], hW', trodAll_mk1 (shut_bool Try.underlying4 _), (trodAll_cons_mk (Below.trod laidOut (by kernel_rfl) (of_decide_eq_true (by kernel_rfl)) k0 bel lt0) (trodAll_cons_mk (Below.trod laidOut (by kernel_rfl) (of_decide_eq_true (by kernel_rfl)) k1 bel lt1) trodAll_mk0)), rfl, bel.frame _, fun h => by cases h⟩

theorem over : Rows.fnExactPassStokesRow.holds Try.pinned (OpenSpec.ofChange Rows.fnExactPassStokesSpec) :=
  OpenClaim.holds_of_wide 14 Try.f14 rfl rfl rfl rfl rfl rfl rfl ⟨rfl, rfl, rfl, rfl, rfl⟩ rfl rfl rfl rfl rfl (by kernel_rfl) Try.func14 (by kernel_rfl)
    (of_decide_eq_true (by kernel_rfl)) (by unfold Func.isWrapper; first | (rw [if_pos (by decide +kernel)]; kernel_rfl) | (rw [if_neg (by decide +kernel)]; exact ⟨rfl, rfl⟩))
    (fun os started H enc _ => lifted os started H enc)
end Go.Proofs.Ytloebnlmeplgbaa.LawPassStokes
namespace Go.Proofs.Ytloebnlmeplgbaa
theorem passStokes_holds : Rows.FnExactPassStokesSaid := LawPassStokes.over
#print axioms passStokes_holds
end Go.Proofs.Ytloebnlmeplgbaa
