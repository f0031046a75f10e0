/- MeshDet of both packages: contracts. -/
import Derived.Test.YtboppklcmdfphaaMf
import Derived.Test.YtboppklcmdfphaaRw
namespace Go.Proofs.Ytboppklcmdfphaa
open Go.RowKit
set_option linter.unusedVariables false
set_option linter.unusedSimpArgs false
theorem ownL_one {lo : Nat} {W : World} {c x : Int} {b cap : Nat} (hc : c = 0) (h : Blk W b #[.int .i64 x] 2) (hlo : lo ≤ b) : OwnL lo W.heap.size W c (.slice (some ⟨b, 0, none⟩) 1 cap) 1 (fun _ => x) :=
  Or.inr ⟨hc, b, cap, rfl, hlo, h.lt, ⟨_, h, fun i hi => by obtain rfl : i = 0 := by omega
                                                            rfl⟩⟩
set_option maxRecDepth 20000 in
set_option maxHeartbeats 1600000 in
theorem iMD_any {w : World} {ao bo : Option Addr} {np nc cp cq : Nat} {sd : Int} {ph : Nat → Int} {C : Nat → Ce} (h : Me w (.slice ao np cp) (.slice bo nc cq) np ph nc C) (hp : np ≤ 1048576) (hn : nc ≤ 1048576) {c : Int} (hc : c = Rm.mfault sd np ph nc C) :
    Calls Try.prog 55 #[.agg #[.int .i64 sd, .slice ao np cp, .slice bo nc cq]] w fun e w' => ∃ v, e = .returned (.agg #[.int .i64 c, v]) ∧ OwnL w.heap.size w'.heap.size w' c v 1 (fun _ => Rm.det np ph nc C) ∧ Below w.heap.size w w' := by
  obtain ⟨X, hX⟩ : ∃ X, X = (w.alloc (.cells #[.int .i64 sd, .slice ao np cp, .slice bo nc cq] 49)).alloc (.cells #[.int .i64 0, .slice none 0 0] 34) := ⟨_, rfl⟩
  have BX : Hid (Blk X w.heap.size #[.int .i64 sd, .slice ao np cp, .slice bo nc cq] 49 ∧ Below w.heap.size w X ∧ Blk X (w.heap.size + 1) #[.int .i64 0, .slice none 0 0] 34 ∧ X.heap.size = w.heap.size + 1 + 1) := by rw [hX]; exact ⟨(Blk.new rfl).alloc _, ((Below.refl _ _).alloc (Nat.le_refl _) _).alloc (by simp) _, Blk.new (by simp), by simp⟩
  have hX0 : w.heap.size < X.heap.size := BX.out.1.lt
  have HM : ∀ W, Below X.heap.size X W → Hid (Me W (.slice ao np cp) (.slice bo nc cq) np ph nc C) := fun W hb => h.later (BX.out.2.1.trans (hb.mono (Nat.le_of_lt hX0)))
  clear h
  have x0 := BX.out.1.cell (j := 0) rfl
  have x1 := BX.out.1.cell (j := 1) rfl
  have x2 := BX.out.1.cell (j := 2) rfl
  have HCC : Hid (c = Rm.mfault sd np ph nc C) := hc
  clear hc
  go_enter Try.func55, Try.ntmps55
  go_wp2_with fail
  rw [← hX]
  clear hX
  refine (iMf_any (HM _ (Below.refl _ _)).out hp hn).mono ?_
  rintro e w1 ⟨rfl, hb1⟩
  rw [← HCC.out]
  by_cases h0 : c = 0
  · have HC0 : Hid (c = 0) := h0
    have hok := Rm.mfault_ok (HCC.out.symm.trans h0)
    have hp24 : np ≤ 24 := by omega
    have hc600 : nc ≤ 600 := by omega
    clear hok
    rw [HC0.out]
    clear h0
    have hB := BX.out.1.old hb1
    have y0 := hB.cell (j := 0) rfl
    have y1 := hB.cell (j := 1) rfl
    have y2 := hB.cell (j := 2) rfl
    have hR := BX.out.2.2.1.old hb1
    have r0 := hR.cell (j := 0) rfl
    have r1 := hR.cell (j := 1) rfl
    have rf := hR.frozen
    have rl := hR.lt
    have hl := hB.lt
    clear x0 x1 x2
    have HB1 : Hid (Below X.heap.size X w1) := hb1
    have HBR : Hid (Blk w1 w.heap.size #[.int .i64 sd, .slice ao np cp, .slice bo nc cq] 49 ∧ Blk w1 (w.heap.size + 1) #[.int .i64 0, .slice none 0 0] 34) := ⟨hB, hR⟩
    clear hB hR hb1
    go_wp2_with fail
    refine (iMdet_any (HM _ HB1.out).out (by omega) (by omega)).mono ?_
    rintro e w2 ⟨rfl, hb2⟩
    clear y0 y1 y2 r0 r1 rf
    have hR2 := HBR.out.2.old hb2
    have r0 := hR2.cell (j := 0) rfl
    have r1 := hR2.cell (j := 1) rfl
    have rf := hR2.frozen
    have rl2 := hR2.lt
    have HR2 : Hid (Blk w2 (w.heap.size + 1) #[.int .i64 0, .slice none 0 0] 34) := hR2
    have HB2 : Hid (Below w.heap.size w w2 ∧ w.heap.size + 1 < w2.heap.size) := ⟨BX.out.2.1.trans ((HB1.out.trans (hb2.mono HB1.out.size)).mono (Nat.le_of_lt hX0)), hR2.lt⟩
    clear hR2 hb2 HM
    obtain ⟨d, hd⟩ : ∃ d, d = Rm.det np ph nc C := ⟨_, rfl⟩
    have HDD : Hid (d = Rm.det np ph nc C) := hd
    rw [← hd]
    clear hd
    go_wp2
    refine bodyPost_ret (res_of (cs := #[.int .i64 0, .slice (some ⟨w2.heap.size, 0, none⟩) 1 1]) Try.results55 rfl (((HR2.out.set 0 _ rfl).set 1 _ rfl).alloc _) Try.underlying34 (by kernel_rfl)) rfl ⟨_, by rw [HC0.out], ?_, ?_⟩
    · have hk := HB2.out.2
      rw [← HDD.out]
      exact ownL_one HC0.out (Blk.new (by simp)) (by omega)
    · have h1 := HB2.out
      repeat (first | exact h1.1 | (refine Below.setCell ?_ (by simp) _) | (refine Below.alloc ?_ (by simp <;> omega) _))
  · have h1 : (c != 0) = true := by rw [bne_iff_ne]; exact h0
    have HC0 : Hid (c ≠ 0) := h0
    clear h0
    have hB := BX.out.1.old hb1
    have y0 := hB.cell (j := 0) rfl
    have y1 := hB.cell (j := 1) rfl
    have y2 := hB.cell (j := 2) rfl
    have hR := BX.out.2.2.1.old hb1
    have r0 := hR.cell (j := 0) rfl
    have r1 := hR.cell (j := 1) rfl
    have rf := hR.frozen
    have rl := hR.lt
    have hl := hB.lt
    clear x0 x1 x2
    have HBW : Hid (Below w.heap.size w w1) := BX.out.2.1.trans (hb1.mono (Nat.le_of_lt hX0))
    clear hB hR hb1 HM
    go_wp2
    refine bodyPost_ret (v := .agg #[.int .i64 c, .slice none 0 0]) (by simp [results, Try.results55, go_sem, r0, r1]) rfl ⟨_, rfl, Or.inl ⟨HC0.out, rfl⟩, ?_⟩
    exact (HBW.out.setCell (by simp) _).setCell (by simp) _
set_option maxRecDepth 20000 in
set_option maxHeartbeats 1600000 in
theorem sMD_any {w : World} {ao bo : Option Addr} {np nc cp cq : Nat} {sd : Int} {ph : Nat → Int} {C : Nat → Ce} (h : Me w (.slice ao np cp) (.slice bo nc cq) np ph nc C) (hp : np ≤ 1048576) (hn : nc ≤ 1048576) {c : Int} (hc : c = Rm.mfault sd np ph nc C) :
    Calls Try.prog 54 #[.agg #[.int .i64 sd, .slice ao np cp, .slice bo nc cq]] w fun e w' => ∃ v, e = .returned (.agg #[.int .i64 c, v]) ∧ OwnL w.heap.size w'.heap.size w' c v 1 (fun _ => Rm.det np ph nc C) ∧ Below w.heap.size w w' := by
  obtain ⟨X, hX⟩ : ∃ X, X = (w.alloc (.cells #[.int .i64 sd, .slice ao np cp, .slice bo nc cq] 49)).alloc (.cells #[.int .i64 0, .slice none 0 0] 34) := ⟨_, rfl⟩
  have BX : Hid (Blk X w.heap.size #[.int .i64 sd, .slice ao np cp, .slice bo nc cq] 49 ∧ Below w.heap.size w X ∧ Blk X (w.heap.size + 1) #[.int .i64 0, .slice none 0 0] 34 ∧ X.heap.size = w.heap.size + 1 + 1) := by rw [hX]; exact ⟨(Blk.new rfl).alloc _, ((Below.refl _ _).alloc (Nat.le_refl _) _).alloc (by simp) _, Blk.new (by simp), by simp⟩
  have hX0 : w.heap.size < X.heap.size := BX.out.1.lt
  have HM : ∀ W, Below X.heap.size X W → Hid (Me W (.slice ao np cp) (.slice bo nc cq) np ph nc C) := fun W hb => h.later (BX.out.2.1.trans (hb.mono (Nat.le_of_lt hX0)))
  clear h
  have x0 := BX.out.1.cell (j := 0) rfl
  have x1 := BX.out.1.cell (j := 1) rfl
  have x2 := BX.out.1.cell (j := 2) rfl
  have HCC : Hid (c = Rm.mfault sd np ph nc C) := hc
  clear hc
  go_enter Try.func54, Try.ntmps54
  go_wp2_with fail
  rw [← hX]
  clear hX
  refine (sMf_any (HM _ (Below.refl _ _)).out hp hn).mono ?_
  rintro e w1 ⟨rfl, hb1⟩
  rw [← HCC.out]
  by_cases h0 : c = 0
  · have HC0 : Hid (c = 0) := h0
    have hok := Rm.mfault_ok (HCC.out.symm.trans h0)
    have hp24 : np ≤ 24 := by omega
    have hc600 : nc ≤ 600 := by omega
    clear hok
    rw [HC0.out]
    clear h0
    have hB := BX.out.1.old hb1
    have y0 := hB.cell (j := 0) rfl
    have y1 := hB.cell (j := 1) rfl
    have y2 := hB.cell (j := 2) rfl
    have hR := BX.out.2.2.1.old hb1
    have r0 := hR.cell (j := 0) rfl
    have r1 := hR.cell (j := 1) rfl
    have rf := hR.frozen
    have rl := hR.lt
    have hl := hB.lt
    clear x0 x1 x2
    obtain ⟨Y, hY⟩ : ∃ Y, Y = w1 := ⟨_, rfl⟩
    subst hY
    have BY : Hid (Blk Y w.heap.size #[.int .i64 sd, .slice ao np cp, .slice bo nc cq] 49 ∧ Blk Y (w.heap.size + 1) #[.int .i64 0, .slice none 0 0] 34 ∧ Below X.heap.size X Y) := ⟨hB, hR, hb1⟩
    clear hB hR hb1
    go_wp2_with fail
    clear y0 y1 y2 r0 r1 rf rl hl
    go_loopw [4, 5] (fun x i wr => wr = Y ∧ ∃ k : Nat, k ≤ np ∧ i = .int .i64 k ∧ x = .int .i64 (Rm.pdet ph k)) (fun _ i _ => np - (intOf i).toNat)
    case atStart => exact ⟨rfl, 0, Nat.zero_le _, rfl, rfl⟩
    case round =>
      obtain ⟨rfl, k, hk, rfl, rfl⟩ := hrel
      have x0 := BY.out.1.cell (j := 0) rfl
      have x1 := BY.out.1.cell (j := 1) rfl
      have x2 := BY.out.1.cell (j := 2) rfl
      by_cases hkn : k < np
      · obtain ⟨b, off, rfl, hc⟩ := (HM wr BY.out.2.2).out.p.at hkn
        clear HM
        go_wp2_with (first | (go_at_call 79; refine (sMul_any _ _ _).mono ?_; rintro e w1 ⟨rfl, rfl⟩))
        exact ⟨⟨by trivial, k + 1, by omega, by simp, rfl⟩, by simp [intOf]; omega⟩
      · obtain rfl : k = np := by omega
        obtain ⟨x, hx⟩ : ∃ x, x = Rm.pdet ph k := ⟨_, rfl⟩
        have HXX : Hid (x = Rm.pdet ph k) := hx
        rw [← hx]
        clear hx
        obtain ⟨V, hV⟩ : ∃ V, V = wr := ⟨_, rfl⟩
        subst hV
        go_wp2_with fail
        clear x0 x1 x2
        go_loopw [4, 6] (fun y i wq => ∃ j : Nat, j ≤ nc ∧ i = .int .i64 j ∧ y = .int .i64 (Rm.mdet x C j) ∧ Hid (Below V.heap.size V wq)) (fun _ i _ => nc - (intOf i).toNat)
        case atStart => exact ⟨0, Nat.zero_le _, rfl, rfl, Below.refl _ _⟩
        case round =>
          obtain ⟨j, hj, rfl, rfl, HB⟩ := hrel
          have hB := BY.out.1.old HB.out
          have x0 := hB.cell (j := 0) rfl
          have x1 := hB.cell (j := 1) rfl
          have x2 := hB.cell (j := 2) rfl
          have hR := BY.out.2.1.old HB.out
          have r0 := hR.cell (j := 0) rfl
          have r1 := hR.cell (j := 1) rfl
          have rf := hR.frozen
          have hlt := hR.lt
          have HR2 : Hid (Blk wr (w.heap.size + 1) #[.int .i64 0, .slice none 0 0] 34) := hR
          clear hB hR
          by_cases hjn : j < nc
          · obtain ⟨b, rfl, hc⟩ := (HM _ (BY.out.2.2.trans (HB.out.mono BY.out.2.2.size))).out.c.at hjn
            have g0 : wr.cell? ⟨b, j * 6, none⟩ = some (.int .i64 (C j).i) := hc 0 (by omega)
            have g1 : wr.cell? ⟨b, j * 6 + 1, none⟩ = some (.int .i64 (C j).j) := hc 1 (by omega)
            have g2 : wr.cell? ⟨b, j * 6 + 2, none⟩ = some (.int .i64 (C j).a) := hc 2 (by omega)
            have g3 : wr.cell? ⟨b, j * 6 + 3, none⟩ = some (.int .i64 (C j).b) := hc 3 (by omega)
            have g4 : wr.cell? ⟨b, j * 6 + 4, none⟩ = some (.int .i64 (C j).c) := hc 4 (by omega)
            have g5 : wr.cell? ⟨b, j * 6 + 5, none⟩ = some (.int .i64 (C j).d) := hc 5 (by omega)
            clear hc HM
            go_wp2_with (first | (go_at_call 67; refine (sDet_any (C j) _).mono ?_; rintro e w1 ⟨rfl, hb1⟩) | (go_at_call 79; refine (sMul_any _ _ _).mono ?_; rintro e w2 ⟨rfl, rfl⟩))
            exact ⟨⟨j + 1, by omega, by simp, rfl, HB.out.trans (hb1.mono HB.out.size)⟩, by simp [intOf]; omega⟩
          · obtain rfl : j = nc := by omega
            clear HM
            obtain ⟨d, hd⟩ : ∃ d, d = Rm.mdet x C j := ⟨_, rfl⟩
            have HDD : Hid (Rm.det k ph j C = d) := by rw [hd, HXX.out]; rfl
            rw [← hd]
            clear hd
            have HBW : Hid (Below w.heap.size w wr) := BX.out.2.1.trans ((BY.out.2.2.trans (HB.out.mono BY.out.2.2.size)).mono (Nat.le_of_lt hX0))
            go_wp2
            refine bodyPost_ret (res_of (cs := #[.int .i64 0, .slice (some ⟨wr.heap.size, 0, none⟩) 1 1]) Try.results54 rfl (((HR2.out.set 0 _ rfl).set 1 _ rfl).alloc _) Try.underlying34 (by kernel_rfl)) rfl ⟨_, by rw [HC0.out], ?_, ?_⟩
            · rw [HDD.out]
              exact ownL_one HC0.out (Blk.new (by simp)) (by omega)
            · have h1 := HBW.out
              repeat (first | exact h1 | (refine Below.setCell ?_ (by simp) _) | (refine Below.alloc ?_ (by simp <;> omega) _))
  · have h1 : (c != 0) = true := by rw [bne_iff_ne]; exact h0
    have HC0 : Hid (c ≠ 0) := h0
    clear h0
    have hB := BX.out.1.old hb1
    have y0 := hB.cell (j := 0) rfl
    have y1 := hB.cell (j := 1) rfl
    have y2 := hB.cell (j := 2) rfl
    have hR := BX.out.2.2.1.old hb1
    have r0 := hR.cell (j := 0) rfl
    have r1 := hR.cell (j := 1) rfl
    have rf := hR.frozen
    have rl := hR.lt
    have hl := hB.lt
    clear x0 x1 x2
    have HBW : Hid (Below w.heap.size w w1) := BX.out.2.1.trans (hb1.mono (Nat.le_of_lt hX0))
    clear hB hR hb1 HM
    go_wp2
    refine bodyPost_ret (v := .agg #[.int .i64 c, .slice none 0 0]) (by simp [results, Try.results54, go_sem, r0, r1]) rfl ⟨_, rfl, Or.inl ⟨HC0.out, rfl⟩, ?_⟩
    exact (HBW.out.setCell (by simp) _).setCell (by simp) _
end Go.Proofs.Ytboppklcmdfphaa
