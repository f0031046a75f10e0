/- Meshes: faults and determinants of both packages: contracts. -/
import Derived.Test.YtboppklcmdfphaaMh
import Derived.Test.YtboppklcmdfphaaMp
import Derived.BigQuiet
namespace Go.Proofs.Ytboppklcmdfphaa
open Go.RowKit
set_option linter.unusedVariables false
set_option linter.unusedSimpArgs false
set_option maxRecDepth 20000 in
set_option maxHeartbeats 1600000 in
theorem iDet_any (g : Ce) (w : World) : Calls Try.prog 100 #[.agg #[.int .i64 g.i, .int .i64 g.j, .int .i64 g.a, .int .i64 g.b, .int .i64 g.c, .int .i64 g.d]] w fun e w' => e = .returned (.int .i64 (Rm.cdet g)) ∧ Below w.heap.size w w' := by
  have h1 := Rm.mulM_lo g.b g.c
  have h2 := Rm.mulM_hi g.b g.c
  unfold Rm.cdet
  go_enter Try.func100, Try.ntmps100
  go_wp2_with fail
  go_quiet (first | (go_at_call 99; exact quiet_eq (iMul_any _ _ _)) | (go_at_call 117; exact quiet_eq (iAdd_any _ _ _)))
  go_wp2
  go_ret
  exact ⟨rfl, below_drewN (by go_grown) _⟩
set_option maxRecDepth 20000 in
set_option maxHeartbeats 1600000 in
theorem sDet_any (g : Ce) (w : World) : Calls Try.prog 67 #[.agg #[.int .i64 g.i, .int .i64 g.j, .int .i64 g.a, .int .i64 g.b, .int .i64 g.c, .int .i64 g.d]] w fun e w' => e = .returned (.int .i64 (Rm.cdet g)) ∧ Below w.heap.size w w' := by
  have h1 := Rm.mulM_lo g.b g.c
  have h2 := Rm.mulM_hi g.b g.c
  unfold Rm.cdet
  go_enter Try.func67, Try.ntmps67
  go_wp2_with fail
  go_quiet (first | (go_at_call 79; exact quiet_eq (sMul_any _ _ _)) | (go_at_call 80; exact quiet_eq (sAdd_any _ _ _)))
  go_wp2
  go_ret
  exact ⟨rfl, below_drewN (by go_grown) _⟩
set_option maxRecDepth 20000 in
set_option maxHeartbeats 1600000 in
theorem isG_any (i side : Int) (w : World) : Calls Try.prog 88 #[.int .i64 i, .int .i64 side] w fun e w' => e = .returned (.bool (Rm.isG i side)) ∧ w = w' := by
  unfold Rm.isG
  by_cases h : 0 ≤ i
  · by_cases h2 : i < side
    · rw [decide_eq_true h, decide_eq_true h2]
      go_enter Try.func88, Try.ntmps88
      go_wp2
      go_ret
      exact ⟨rfl, rfl⟩
    · rw [decide_eq_true h, decide_eq_false h2]
      go_enter Try.func88, Try.ntmps88
      go_wp2
      go_ret
      exact ⟨rfl, rfl⟩
  · rw [decide_eq_false h]
    go_enter Try.func88, Try.ntmps88
    go_wp2
    go_ret
    exact ⟨rfl, rfl⟩
set_option maxRecDepth 20000 in
set_option maxHeartbeats 1600000 in
theorem iFits_any {w : World} {ao bo : Option Addr} {np nc cp cq : Nat} {sd : Int} {ph : Nat → Int} {C : Nat → Ce} (h : Me w (.slice ao np cp) (.slice bo nc cq) np ph nc C) (hn : nc ≤ 1048576) :
    Calls Try.prog 69 #[.agg #[.int .i64 sd, .slice ao np cp, .slice bo nc cq]] w fun e w' => e = .returned (.bool (Rm.fitsB sd C nc)) ∧ Below w.heap.size w w' := by
  obtain ⟨X, hX⟩ : ∃ X, X = (w.alloc (.cells #[.int .i64 sd, .slice ao np cp, .slice bo nc cq] 49)) := ⟨_, rfl⟩
  have BX : Hid (Blk X w.heap.size #[.int .i64 sd, .slice ao np cp, .slice bo nc cq] 49 ∧ Below w.heap.size w X) := by rw [hX]; exact ⟨Blk.new rfl, (Below.refl _ _).alloc (Nat.le_refl _) _⟩
  have hX0 : w.heap.size < X.heap.size := BX.out.1.lt
  have HM : ∀ W, Below X.heap.size X W → Hid (Me W (.slice ao np cp) (.slice bo nc cq) np ph nc C) := fun W hb => h.later (BX.out.2.trans (hb.mono (Nat.le_of_lt hX0)))
  clear h
  go_enter Try.func69, Try.ntmps69
  go_wp2_with fail
  rw [← hX]
  clear hX
  go_loopw [8] (fun i wr => ∃ k : Nat, k ≤ nc ∧ i = .int .i64 k ∧ Hid (Below X.heap.size X wr) ∧ Hid (Rm.fitsB sd C k = true)) (fun i _ => nc - (intOf i).toNat)
  case atStart => exact ⟨0, Nat.zero_le _, rfl, Below.refl _ _, rfl⟩
  case round =>
    obtain ⟨k, hk, rfl, HB, HF⟩ := hrel
    by_cases hkn : k < nc
    · obtain ⟨b, rfl, hc⟩ := (HM wr HB.out).out.c.at hkn
      have hB := BX.out.1.old HB.out
      have x0 := hB.cell (j := 0) rfl
      have x1 := hB.cell (j := 1) rfl
      have x2 := hB.cell (j := 2) rfl
      have hlt := hB.lt
      clear hB
      have g0 : wr.cell? ⟨b, k * 6, none⟩ = some (.int .i64 (C k).i) := hc 0 (by omega)
      have g1 : wr.cell? ⟨b, k * 6 + 1, none⟩ = some (.int .i64 (C k).j) := hc 1 (by omega)
      have g2 : wr.cell? ⟨b, k * 6 + 2, none⟩ = some (.int .i64 (C k).a) := hc 2 (by omega)
      have g3 : wr.cell? ⟨b, k * 6 + 3, none⟩ = some (.int .i64 (C k).b) := hc 3 (by omega)
      have g4 : wr.cell? ⟨b, k * 6 + 4, none⟩ = some (.int .i64 (C k).c) := hc 4 (by omega)
      have g5 : wr.cell? ⟨b, k * 6 + 5, none⟩ = some (.int .i64 (C k).d) := hc 5 (by omega)
      have hbl := World.block_lt_of_cell? _ _ g0
      clear hc HM
      obtain ⟨g, hg⟩ : ∃ g, g = C k := ⟨_, rfl⟩
      have HG : Hid (g = C k) := hg
      rw [← hg] at g0 g1 g2 g3 g4 g5
      clear hg
      have HW : ∀ o, Hid (Below X.heap.size X (wr.alloc o)) := fun o => HB.out.alloc HB.out.size o
      by_cases hi : Rm.isG g.i sd = true
      · by_cases hj : Rm.isG g.j sd = true
        · by_cases he : g.i = g.j
          · have hf : Hid (Rm.fitsB sd C nc = false) := Rm.fits_stop hkn (by rw [← HG.out]; unfold Rm.fitB; simp [he])
            have e1 : (g.i == g.j) = true := by simp [he]
            clear he
            go_wp2_with (first | (go_at_call 88; refine (isG_any _ _ _).mono ?_; rintro e w1 ⟨rfl, rfl⟩))
            go_ret
            refine ⟨by rw [hf.out]; rfl, ?_⟩
            refine BX.out.2.trans (Below.mono ?_ (Nat.le_of_lt hX0))
            repeat (first | exact (HW _).out | (refine Below.setCell ?_ (by have := HB.out.size; simp; omega) _))
          · have hf : Hid (Rm.fitsB sd C (k + 1) = true) := by
              show Rm.fitsB sd C (k + 1) = true
              unfold Rm.fitsB
              rw [HF.out, ← HG.out]
              unfold Rm.fitB
              simp [hi, hj, he]
            have e1 : (g.i == g.j) = false := by simp [he]
            clear he
            go_wp2_with (first | (go_at_call 88; refine (isG_any _ _ _).mono ?_; rintro e w1 ⟨rfl, rfl⟩))
            refine ⟨⟨k + 1, by omega, by simp, ?_, hf⟩, by simp [intOf]; omega⟩
            show Below _ _ _
            repeat (first | exact (HW _).out | (refine Below.setCell ?_ (by have := HB.out.size; simp; omega) _))
        · have hj' : Rm.isG g.j sd = false := by simpa using hj
          have hf : Hid (Rm.fitsB sd C nc = false) := Rm.fits_stop hkn (by rw [← HG.out]; unfold Rm.fitB; simp [hj'])
          clear hj
          go_wp2_with (first | (go_at_call 88; refine (isG_any _ _ _).mono ?_; rintro e w1 ⟨rfl, rfl⟩))
          go_ret
          refine ⟨by rw [hf.out]; rfl, ?_⟩
          refine BX.out.2.trans (Below.mono ?_ (Nat.le_of_lt hX0))
          repeat (first | exact (HW _).out | (refine Below.setCell ?_ (by have := HB.out.size; simp; omega) _))
      · have hi' : Rm.isG g.i sd = false := by simpa using hi
        have hf : Hid (Rm.fitsB sd C nc = false) := Rm.fits_stop hkn (by rw [← HG.out]; unfold Rm.fitB; simp [hi'])
        clear hi
        go_wp2_with (first | (go_at_call 88; refine (isG_any _ _ _).mono ?_; rintro e w1 ⟨rfl, rfl⟩))
        go_ret
        refine ⟨by rw [hf.out]; rfl, ?_⟩
        refine BX.out.2.trans (Below.mono ?_ (Nat.le_of_lt hX0))
        repeat (first | exact (HW _).out | (refine Below.setCell ?_ (by have := HB.out.size; simp; omega) _))
    · obtain rfl : k = nc := by omega
      have hB := BX.out.1.old HB.out
      clear HM
      go_wp2
      go_ret
      exact ⟨by rw [HF.out]; rfl, BX.out.2.trans (HB.out.mono (Nat.le_of_lt hX0))⟩
set_option maxRecDepth 20000 in
set_option maxHeartbeats 1600000 in
theorem iMdet_any {w : World} {ao bo : Option Addr} {np nc cp cq : Nat} {sd : Int} {ph : Nat → Int} {C : Nat → Ce} (h : Me w (.slice ao np cp) (.slice bo nc cq) np ph nc C) (hp : np ≤ 1048576) (hn : nc ≤ 1048576) :
    Calls Try.prog 70 #[.agg #[.int .i64 sd, .slice ao np cp, .slice bo nc cq]] w fun e w' => e = .returned (.int .i64 (Rm.det np ph nc C)) ∧ Below w.heap.size w w' := by
  obtain ⟨X, hX⟩ : ∃ X, X = (w.alloc (.cells #[.int .i64 sd, .slice ao np cp, .slice bo nc cq] 49)) := ⟨_, rfl⟩
  have BX : Hid (Blk X w.heap.size #[.int .i64 sd, .slice ao np cp, .slice bo nc cq] 49 ∧ Below w.heap.size w X) := by rw [hX]; exact ⟨Blk.new rfl, (Below.refl _ _).alloc (Nat.le_refl _) _⟩
  have hX0 : w.heap.size < X.heap.size := BX.out.1.lt
  have HM : ∀ W, Below X.heap.size X W → Hid (Me W (.slice ao np cp) (.slice bo nc cq) np ph nc C) := fun W hb => h.later (BX.out.2.trans (hb.mono (Nat.le_of_lt hX0)))
  clear h
  go_enter Try.func70, Try.ntmps70
  go_wp2_with fail
  rw [← hX]
  clear hX
  go_loopw [3, 9] (fun x i wr => wr = X ∧ ∃ k : Nat, k ≤ np ∧ i = .int .i64 k ∧ x = .int .i64 (Rm.pdet ph k)) (fun _ i _ => np - (intOf i).toNat)
  case atStart => exact ⟨rfl, 0, Nat.zero_le _, rfl, rfl⟩
  case round =>
    obtain ⟨rfl, k, hk, rfl, rfl⟩ := hrel
    by_cases hkn : k < np
    · obtain ⟨b, off, rfl, hc⟩ := (HM wr (Below.refl _ _)).out.p.at hkn
      have hB := BX.out.1.old (Below.refl _ _)
      have x0 := hB.cell (j := 0) rfl
      have x1 := hB.cell (j := 1) rfl
      have x2 := hB.cell (j := 2) rfl
      have hlt := hB.lt
      clear hB
      clear HM
      go_wp2_with (first | (go_at_call 99; refine (iMul_any _ _ _).mono ?_; rintro e w1 ⟨rfl, rfl⟩))
      exact ⟨⟨by trivial, k + 1, by omega, by simp, rfl⟩, by simp [intOf]; omega⟩
    · obtain rfl : k = np := by omega
      have x2 := BX.out.1.cell (j := 2) rfl
      obtain ⟨x, hx⟩ : ∃ x, x = Rm.pdet ph k := ⟨_, rfl⟩
      have HXX : Hid (x = Rm.pdet ph k) := hx
      rw [← hx]
      clear hx
      obtain ⟨Y, hY⟩ : ∃ Y, Y = wr := ⟨_, rfl⟩
      subst hY
      go_wp2_with fail
      clear x2
      go_loopw [3, 23] (fun y i wq => ∃ j : Nat, j ≤ nc ∧ i = .int .i64 j ∧ y = .int .i64 (Rm.mdet x C j) ∧ Hid (Below Y.heap.size Y wq)) (fun _ i _ => nc - (intOf i).toNat)
      case atStart => exact ⟨0, Nat.zero_le _, rfl, rfl, Below.refl _ _⟩
      case round =>
        obtain ⟨j, hj, rfl, rfl, HB⟩ := hrel
        by_cases hjn : j < nc
        · obtain ⟨b, rfl, hc⟩ := (HM _ HB.out).out.c.at hjn
          have hB := BX.out.1.old HB.out
          have x0 := hB.cell (j := 0) rfl
          have x1 := hB.cell (j := 1) rfl
          have x2 := hB.cell (j := 2) rfl
          have hlt := hB.lt
          clear hB
          have g0 : wr.cell? ⟨b, j * 6, none⟩ = some (.int .i64 (C j).i) := hc 0 (by omega)
          have g1 : wr.cell? ⟨b, j * 6 + 1, none⟩ = some (.int .i64 (C j).j) := hc 1 (by omega)
          have g2 : wr.cell? ⟨b, j * 6 + 2, none⟩ = some (.int .i64 (C j).a) := hc 2 (by omega)
          have g3 : wr.cell? ⟨b, j * 6 + 3, none⟩ = some (.int .i64 (C j).b) := hc 3 (by omega)
          have g4 : wr.cell? ⟨b, j * 6 + 4, none⟩ = some (.int .i64 (C j).c) := hc 4 (by omega)
          have g5 : wr.cell? ⟨b, j * 6 + 5, none⟩ = some (.int .i64 (C j).d) := hc 5 (by omega)
          clear hc HM
          go_wp2_with (first | (go_at_call 100; refine (iDet_any (C j) _).mono ?_; rintro e w1 ⟨rfl, hb1⟩) | (go_at_call 99; refine (iMul_any _ _ _).mono ?_; rintro e w2 ⟨rfl, rfl⟩))
          exact ⟨⟨j + 1, by omega, by simp, rfl, HB.out.trans (hb1.mono HB.out.size)⟩, by simp [intOf]; omega⟩
        · obtain rfl : j = nc := by omega
          clear HM
          go_wp2
          go_ret
          exact ⟨by unfold Rm.det; rw [← HXX.out]; rfl, BX.out.2.trans (HB.out.mono (Nat.le_of_lt hX0))⟩
end Go.Proofs.Ytboppklcmdfphaa
