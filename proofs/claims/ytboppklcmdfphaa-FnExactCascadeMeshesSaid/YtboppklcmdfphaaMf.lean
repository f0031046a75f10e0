/- Meshes: faults of both packages: contracts. -/
import Derived.Test.YtboppklcmdfphaaMq
namespace Go.Proofs.Ytboppklcmdfphaa
open Go.RowKit
set_option linter.unusedVariables false
set_option linter.unusedSimpArgs false
theorem mf_two {sd : Int} {np : Nat} {ph : Nat → Int} {nc : Nat} {C : Nat → Ce} (h : 24 < sd ∨ 600 < (nc : Int)) : Rm.mfault sd np ph nc C = 2 := by unfold Rm.mfault; rw [if_pos h]
theorem mf_one {sd : Int} {np : Nat} {ph : Nat → Int} {nc : Nat} {C : Nat → Ce} (h : sd ≤ 24) (h' : (nc : Int) ≤ 600) (k : sd < 1 ∨ (np : Int) ≠ sd ∨ Rm.fitsB sd C nc = false) : Rm.mfault sd np ph nc C = 1 := by
  unfold Rm.mfault; rw [if_neg (by omega), if_pos k]
theorem mf_six {sd : Int} {np : Nat} {ph : Nat → Int} {nc : Nat} {C : Nat → Ce} (h : sd ≤ 24) (h' : (nc : Int) ≤ 600) (h1 : 1 ≤ sd) (h2 : (np : Int) = sd) (h3 : Rm.fitsB sd C nc = true) (k : Rm.det np ph nc C = 0) : Rm.mfault sd np ph nc C = 6 := by
  unfold Rm.mfault; rw [if_neg (by omega), if_neg (by rw [h3]; simp; omega), if_pos k]
theorem mf_nil {sd : Int} {np : Nat} {ph : Nat → Int} {nc : Nat} {C : Nat → Ce} (h : sd ≤ 24) (h' : (nc : Int) ≤ 600) (h1 : 1 ≤ sd) (h2 : (np : Int) = sd) (h3 : Rm.fitsB sd C nc = true) (k : Rm.det np ph nc C ≠ 0) : Rm.mfault sd np ph nc C = 0 := by
  unfold Rm.mfault; rw [if_neg (by omega), if_neg (by rw [h3]; simp; omega), if_neg k]
set_option maxRecDepth 20000 in
set_option maxHeartbeats 1600000 in
theorem iMf_early {w : World} {ao bo : Option Addr} {np nc cp cq : Nat} {sd : Int} {ph : Nat → Int} {C : Nat → Ce} (h : Me w (.slice ao np cp) (.slice bo nc cq) np ph nc C) (hp : np ≤ 1048576) (hn : nc ≤ 1048576) (hq : 24 < sd ∨ 600 < (nc : Int) ∨ sd < 1 ∨ (np : Int) ≠ sd) :
    Calls Try.prog 33 #[.agg #[.int .i64 sd, .slice ao np cp, .slice bo nc cq]] w fun e w' => e = .returned (.int .i64 (Rm.mfault sd np ph nc C)) ∧ Below w.heap.size w w' := by
  have hB : Below w.heap.size w (w.alloc (.cells #[.int .i64 sd, .slice ao np cp, .slice bo nc cq] 49)) := (Below.refl _ _).alloc (Nat.le_refl _) _
  clear h
  by_cases h1 : 24 < sd
  · rw [mf_two (Or.inl h1)]
    clear hq
    go_enter Try.func33, Try.ntmps33
    go_wp2
    go_ret
    exact ⟨rfl, hB⟩
  · by_cases h2 : 600 < (nc : Int)
    · rw [mf_two (Or.inr h2)]
      clear hq
      go_enter Try.func33, Try.ntmps33
      go_wp2
      go_ret
      exact ⟨rfl, hB⟩
    · by_cases h3 : sd < 1
      · rw [mf_one (by omega) (by omega) (Or.inl h3)]
        clear hq
        go_enter Try.func33, Try.ntmps33
        go_wp2
        go_ret
        exact ⟨rfl, hB⟩
      · have h4 : (np : Int) ≠ sd := by omega
        have h5 : (((np : Nat) : Int) != sd) = true := by rw [bne_iff_ne]; exact h4
        rw [mf_one (by omega) (by omega) (Or.inr (Or.inl h4))]
        clear hq h4
        go_enter Try.func33, Try.ntmps33
        go_wp2
        go_ret
        exact ⟨rfl, hB⟩
set_option maxRecDepth 20000 in
set_option maxHeartbeats 1600000 in
theorem sMf_early {w : World} {ao bo : Option Addr} {np nc cp cq : Nat} {sd : Int} {ph : Nat → Int} {C : Nat → Ce} (h : Me w (.slice ao np cp) (.slice bo nc cq) np ph nc C) (hp : np ≤ 1048576) (hn : nc ≤ 1048576) (hq : 24 < sd ∨ 600 < (nc : Int) ∨ sd < 1 ∨ (np : Int) ≠ sd) :
    Calls Try.prog 31 #[.agg #[.int .i64 sd, .slice ao np cp, .slice bo nc cq]] w fun e w' => e = .returned (.int .i64 (Rm.mfault sd np ph nc C)) ∧ Below w.heap.size w w' := by
  have hB : Below w.heap.size w (w.alloc (.cells #[.int .i64 sd, .slice ao np cp, .slice bo nc cq] 49)) := (Below.refl _ _).alloc (Nat.le_refl _) _
  clear h
  by_cases h1 : 24 < sd
  · rw [mf_two (Or.inl h1)]
    clear hq
    go_enter Try.func31, Try.ntmps31
    go_wp2
    go_ret
    exact ⟨rfl, hB⟩
  · by_cases h2 : 600 < (nc : Int)
    · rw [mf_two (Or.inr h2)]
      clear hq
      go_enter Try.func31, Try.ntmps31
      go_wp2
      go_ret
      exact ⟨rfl, hB⟩
    · by_cases h3 : sd < 1
      · rw [mf_one (by omega) (by omega) (Or.inl h3)]
        clear hq
        go_enter Try.func31, Try.ntmps31
        go_wp2
        go_ret
        exact ⟨rfl, hB⟩
      · have h4 : (np : Int) ≠ sd := by omega
        have h5 : (((np : Nat) : Int) != sd) = true := by rw [bne_iff_ne]; exact h4
        rw [mf_one (by omega) (by omega) (Or.inr (Or.inl h4))]
        clear hq h4
        go_enter Try.func31, Try.ntmps31
        go_wp2
        go_ret
        exact ⟨rfl, hB⟩
set_option maxRecDepth 20000 in
set_option maxHeartbeats 1600000 in
theorem iMf_go {w : World} {ao bo : Option Addr} {np nc cp cq : Nat} {sd : Int} {ph : Nat → Int} {C : Nat → Ce} (h : Me w (.slice ao np cp) (.slice bo nc cq) np ph nc C) (h24 : sd ≤ 24) (h600 : nc ≤ 600) (hs1 : 1 ≤ sd) (hsd : (np : Int) = sd) :
    Calls Try.prog 33 #[.agg #[.int .i64 sd, .slice ao np cp, .slice bo nc cq]] w fun e w' => e = .returned (.int .i64 (Rm.mfault sd np ph nc C)) ∧ Below w.heap.size w w' := by
  have hnI : (nc : Int) ≤ 600 := by omega
  have hpn : np ≤ 24 := by omega
  obtain ⟨X, hX⟩ : ∃ X, X = (w.alloc (.cells #[.int .i64 sd, .slice ao np cp, .slice bo nc cq] 49)) := ⟨_, rfl⟩
  have BX : Hid (Blk X w.heap.size #[.int .i64 sd, .slice ao np cp, .slice bo nc cq] 49 ∧ Below w.heap.size w X) := by rw [hX]; exact ⟨Blk.new rfl, (Below.refl _ _).alloc (Nat.le_refl _) _⟩
  have hX0 : w.heap.size < X.heap.size := BX.out.1.lt
  have HM : ∀ W, Below X.heap.size X W → Hid (Me W (.slice ao np cp) (.slice bo nc cq) np ph nc C) := fun W hb => h.later (BX.out.2.trans (hb.mono (Nat.le_of_lt hX0)))
  clear h
  have x0 := BX.out.1.cell (j := 0) rfl
  have x1 := BX.out.1.cell (j := 1) rfl
  have x2 := BX.out.1.cell (j := 2) rfl
  have hne : (((np : Nat) : Int) != sd) = false := by rw [hsd]; simp
  have HE : Hid ((np : Int) = sd) := hsd
  clear hsd
  cases hf : Rm.fitsB sd C nc with
  | false =>
    have HF : Hid (Rm.fitsB sd C nc = false) := hf
    rw [mf_one h24 hnI (Or.inr (Or.inr hf))]
    clear hf
    go_enter Try.func33, Try.ntmps33
    go_wp2_with fail
    rw [← hX]
    clear hX
    go_wp2_with (first | (go_at_call 69; refine (iFits_any (HM _ (Below.refl _ _)).out (by omega)).mono ?_; rintro e w1 ⟨rfl, hb1⟩; rw [HF.out]))
    go_ret
    exact ⟨rfl, BX.out.2.trans (hb1.mono (Nat.le_of_lt hX0))⟩
  | true =>
    have HF : Hid (Rm.fitsB sd C nc = true) := hf
    clear hf
    by_cases hd : Rm.det np ph nc C = 0
    · rw [mf_six h24 hnI hs1 HE.out HF.out hd]
      have HD : Hid (Rm.det np ph nc C = 0) := hd
      clear hd
      go_enter Try.func33, Try.ntmps33
      go_wp2_with fail
      rw [← hX]
      clear hX
      go_wp2_with (first | (go_at_call 69; refine (iFits_any (HM _ (Below.refl _ _)).out (by omega)).mono ?_; rintro e w1 ⟨rfl, hb1⟩; rw [HF.out]; have hB := BX.out.1.old hb1; have y0 := hB.cell (j := 0) rfl; have y1 := hB.cell (j := 1) rfl; have y2 := hB.cell (j := 2) rfl) | (go_at_call 70; refine (iMdet_any (HM _ hb1).out (by omega) (by omega)).mono ?_; rintro e w2 ⟨rfl, hb2⟩; rw [HD.out]))
      go_ret
      exact ⟨rfl, BX.out.2.trans ((hb1.trans (hb2.mono hb1.size)).mono (Nat.le_of_lt hX0))⟩
    · rw [mf_nil h24 hnI hs1 HE.out HF.out hd]
      have hd1 : (Rm.det np ph nc C == 0) = false := by simpa using hd
      clear hd
      go_enter Try.func33, Try.ntmps33
      go_wp2_with fail
      rw [← hX]
      clear hX
      go_wp2_with (first | (go_at_call 69; refine (iFits_any (HM _ (Below.refl _ _)).out (by omega)).mono ?_; rintro e w1 ⟨rfl, hb1⟩; rw [HF.out]; have hB := BX.out.1.old hb1; have y0 := hB.cell (j := 0) rfl; have y1 := hB.cell (j := 1) rfl; have y2 := hB.cell (j := 2) rfl) | (go_at_call 70; refine (iMdet_any (HM _ hb1).out (by omega) (by omega)).mono ?_; rintro e w2 ⟨rfl, hb2⟩))
      go_ret
      exact ⟨rfl, BX.out.2.trans ((hb1.trans (hb2.mono hb1.size)).mono (Nat.le_of_lt hX0))⟩
theorem iMf_any {w : World} {ao bo : Option Addr} {np nc cp cq : Nat} {sd : Int} {ph : Nat → Int} {C : Nat → Ce} (h : Me w (.slice ao np cp) (.slice bo nc cq) np ph nc C) (hp : np ≤ 1048576) (hn : nc ≤ 1048576) :
    Calls Try.prog 33 #[.agg #[.int .i64 sd, .slice ao np cp, .slice bo nc cq]] w fun e w' => e = .returned (.int .i64 (Rm.mfault sd np ph nc C)) ∧ Below w.heap.size w w' := by
  by_cases hq : 24 < sd ∨ 600 < (nc : Int) ∨ sd < 1 ∨ (np : Int) ≠ sd
  · exact iMf_early h hp hn hq
  · exact iMf_go h (by omega) (by omega) (by omega) (by omega)
set_option maxRecDepth 20000 in
set_option maxHeartbeats 1600000 in
theorem sMf_go {w : World} {ao bo : Option Addr} {np nc cp cq : Nat} {sd : Int} {ph : Nat → Int} {C : Nat → Ce} (h : Me w (.slice ao np cp) (.slice bo nc cq) np ph nc C) (h24 : sd ≤ 24) (h600 : nc ≤ 600) (hs1 : 1 ≤ sd) (hsd : (np : Int) = sd) :
    Calls Try.prog 31 #[.agg #[.int .i64 sd, .slice ao np cp, .slice bo nc cq]] w fun e w' => e = .returned (.int .i64 (Rm.mfault sd np ph nc C)) ∧ Below w.heap.size w w' := by
  have hnI : (nc : Int) ≤ 600 := by omega
  have hpn : np ≤ 24 := by omega
  obtain ⟨X, hX⟩ : ∃ X, X = (w.alloc (.cells #[.int .i64 sd, .slice ao np cp, .slice bo nc cq] 49)) := ⟨_, rfl⟩
  have BX : Hid (Blk X w.heap.size #[.int .i64 sd, .slice ao np cp, .slice bo nc cq] 49 ∧ Below w.heap.size w X) := by rw [hX]; exact ⟨Blk.new rfl, (Below.refl _ _).alloc (Nat.le_refl _) _⟩
  have hX0 : w.heap.size < X.heap.size := BX.out.1.lt
  have HM : ∀ W, Below X.heap.size X W → Hid (Me W (.slice ao np cp) (.slice bo nc cq) np ph nc C) := fun W hb => h.later (BX.out.2.trans (hb.mono (Nat.le_of_lt hX0)))
  clear h
  have x0 := BX.out.1.cell (j := 0) rfl
  have x1 := BX.out.1.cell (j := 1) rfl
  have x2 := BX.out.1.cell (j := 2) rfl
  have hne : (((np : Nat) : Int) != sd) = false := by rw [hsd]; simp
  have HE : Hid ((np : Int) = sd) := hsd
  clear hsd
  go_enter Try.func31, Try.ntmps31
  go_wp2_with fail
  rw [← hX]
  clear hX x0 x1 x2
  go_loopw [3] (fun i wr => ∃ k : Nat, k ≤ nc ∧ i = .int .i64 k ∧ Hid (Below X.heap.size X wr) ∧ Hid (Rm.fitsB sd C k = true)) (fun i _ => nc - (intOf i).toNat)
  case atStart => exact ⟨0, Nat.zero_le _, rfl, Below.refl _ _, rfl⟩
  case round =>
    obtain ⟨k, hk, rfl, HB, HF⟩ := hrel
    by_cases hkn : k < nc
    · obtain ⟨b, rfl, hc⟩ := (HM wr HB.out).out.c.at hkn
      have hB := BX.out.1.old HB.out
      have x0 := hB.cell (j := 0) rfl
      have x1 := hB.cell (j := 1) rfl
      have x2 := hB.cell (j := 2) rfl
      have hlt := hB.lt
      clear hB
      have g0 : wr.cell? ⟨b, k * 6, none⟩ = some (.int .i64 (C k).i) := hc 0 (by omega)
      have g1 : wr.cell? ⟨b, k * 6 + 1, none⟩ = some (.int .i64 (C k).j) := hc 1 (by omega)
      have g2 : wr.cell? ⟨b, k * 6 + 2, none⟩ = some (.int .i64 (C k).a) := hc 2 (by omega)
      have g3 : wr.cell? ⟨b, k * 6 + 3, none⟩ = some (.int .i64 (C k).b) := hc 3 (by omega)
      have g4 : wr.cell? ⟨b, k * 6 + 4, none⟩ = some (.int .i64 (C k).c) := hc 4 (by omega)
      have g5 : wr.cell? ⟨b, k * 6 + 5, none⟩ = some (.int .i64 (C k).d) := hc 5 (by omega)
      have hbl := World.block_lt_of_cell? _ _ g0
      clear hc HM
      obtain ⟨g, hg⟩ : ∃ g, g = C k := ⟨_, rfl⟩
      have HG : Hid (g = C k) := hg
      rw [← hg] at g0 g1 g2 g3 g4 g5
      clear hg
      have HW : ∀ o, Hid (Below X.heap.size X (wr.alloc o)) := fun o => HB.out.alloc HB.out.size o
      by_cases c1 : g.i < 0
      ·
        have hf : Hid (Rm.fitsB sd C nc = false) := Rm.fits_stop hkn (by rw [← HG.out]; unfold Rm.fitB Rm.isG; simp; omega)
        have hm : Hid (Rm.mfault sd np ph nc C = 1) := mf_one h24 hnI (Or.inr (Or.inr hf.out))
        clear hf
        go_wp2
        go_ret
        refine ⟨by rw [hm.out]; rfl, ?_⟩
        refine BX.out.2.trans (Below.mono ?_ (Nat.le_of_lt hX0))
        repeat (first | exact (HW _).out | (refine Below.setCell ?_ (by have := HB.out.size; simp; omega) _))
      · by_cases c2 : sd ≤ g.i
        ·
          have hf : Hid (Rm.fitsB sd C nc = false) := Rm.fits_stop hkn (by rw [← HG.out]; unfold Rm.fitB Rm.isG; simp; omega)
          have hm : Hid (Rm.mfault sd np ph nc C = 1) := mf_one h24 hnI (Or.inr (Or.inr hf.out))
          clear hf
          go_wp2
          go_ret
          refine ⟨by rw [hm.out]; rfl, ?_⟩
          refine BX.out.2.trans (Below.mono ?_ (Nat.le_of_lt hX0))
          repeat (first | exact (HW _).out | (refine Below.setCell ?_ (by have := HB.out.size; simp; omega) _))
        · by_cases c3 : g.j < 0
          ·
            have hf : Hid (Rm.fitsB sd C nc = false) := Rm.fits_stop hkn (by rw [← HG.out]; unfold Rm.fitB Rm.isG; simp; omega)
            have hm : Hid (Rm.mfault sd np ph nc C = 1) := mf_one h24 hnI (Or.inr (Or.inr hf.out))
            clear hf
            go_wp2
            go_ret
            refine ⟨by rw [hm.out]; rfl, ?_⟩
            refine BX.out.2.trans (Below.mono ?_ (Nat.le_of_lt hX0))
            repeat (first | exact (HW _).out | (refine Below.setCell ?_ (by have := HB.out.size; simp; omega) _))
          · by_cases c4 : sd ≤ g.j
            ·
              have hf : Hid (Rm.fitsB sd C nc = false) := Rm.fits_stop hkn (by rw [← HG.out]; unfold Rm.fitB Rm.isG; simp; omega)
              have hm : Hid (Rm.mfault sd np ph nc C = 1) := mf_one h24 hnI (Or.inr (Or.inr hf.out))
              clear hf
              go_wp2
              go_ret
              refine ⟨by rw [hm.out]; rfl, ?_⟩
              refine BX.out.2.trans (Below.mono ?_ (Nat.le_of_lt hX0))
              repeat (first | exact (HW _).out | (refine Below.setCell ?_ (by have := HB.out.size; simp; omega) _))
            · by_cases c5 : g.i = g.j
              · have e1 : (g.i == g.j) = true := by simp [c5]
                have hf : Hid (Rm.fitsB sd C nc = false) := Rm.fits_stop hkn (by rw [← HG.out]; unfold Rm.fitB Rm.isG; simp; omega)
                have hm : Hid (Rm.mfault sd np ph nc C = 1) := mf_one h24 hnI (Or.inr (Or.inr hf.out))
                clear hf c5
                go_wp2
                go_ret
                refine ⟨by rw [hm.out]; rfl, ?_⟩
                refine BX.out.2.trans (Below.mono ?_ (Nat.le_of_lt hX0))
                repeat (first | exact (HW _).out | (refine Below.setCell ?_ (by have := HB.out.size; simp; omega) _))
              · have e1 : (g.i == g.j) = false := by simp [c5]
                have hf : Hid (Rm.fitsB sd C (k + 1) = true) := by
                  show Rm.fitsB sd C (k + 1) = true
                  unfold Rm.fitsB
                  rw [HF.out, ← HG.out]
                  unfold Rm.fitB Rm.isG
                  simp [c5]
                  omega
                clear c5
                go_wp2
                refine ⟨⟨k + 1, by omega, by simp, ?_, hf⟩, by simp [intOf]; omega⟩
                show Below _ _ _
                repeat (first | exact (HW _).out | (refine Below.setCell ?_ (by have := HB.out.size; simp; omega) _))
    · obtain rfl : k = nc := by omega
      obtain ⟨Y, hY⟩ : ∃ Y, Y = wr := ⟨_, rfl⟩
      subst hY
      have hB := BX.out.1.old HB.out
      have x0 := hB.cell (j := 0) rfl
      have x1 := hB.cell (j := 1) rfl
      have x2 := hB.cell (j := 2) rfl
      have hlt := hB.lt
      clear hB
      have BY : Hid (Blk Y w.heap.size #[.int .i64 sd, .slice ao np cp, .slice bo k cq] 49 ∧ Below X.heap.size X Y) := ⟨BX.out.1.old HB.out, HB.out⟩
      clear HB
      go_wp2_with fail
      clear x0 x1 x2
      go_loopw [5] (fun i wr => wr = Y ∧ ∃ j : Nat, j ≤ np ∧ i = .int .i64 j ∧ Hid (Rm.anyZ (fun i => Rm.md (ph i)) j = false)) (fun i _ => np - (intOf i).toNat)
      case atStart => exact ⟨rfl, 0, Nat.zero_le _, rfl, rfl⟩
      case round =>
        obtain ⟨rfl, j, hj, rfl, HA⟩ := hrel
        have x0 := BY.out.1.cell (j := 0) rfl
        have x1 := BY.out.1.cell (j := 1) rfl
        have x2 := BY.out.1.cell (j := 2) rfl
        by_cases hjn : j < np
        · obtain ⟨b, off, rfl, hc⟩ := (HM wr BY.out.2).out.p.at hjn
          by_cases hz : Rm.md (ph j) = 0
          · have hd : Hid (Rm.det np ph k C = 0) := by
              show Rm.det np ph k C = 0
              have := Rm.det_nought np ph k C
              rw [Rm.anyZ_hit (f := fun i => Rm.md (ph i)) hjn hz] at this
              simpa using this
            have hm : Hid (Rm.mfault sd _ ph _ C = 6) := mf_six h24 hnI hs1 HE.out HF.out hd.out
            have HZ : Hid (Rm.md (ph j) = 0) := hz
            clear hz hd HM
            go_wp2_with (first | (go_at_call 58; refine (l2Mod_any _ _).mono ?_; rintro e w1 ⟨rfl, rfl⟩; rw [HZ.out]))
            go_ret
            exact ⟨by rw [hm.out]; rfl, BX.out.2.trans (BY.out.2.mono (Nat.le_of_lt hX0))⟩
          · have hz1 : (Rm.md (ph j) == 0) = false := by simpa using hz
            have HA2 : Hid (Rm.anyZ (fun i => Rm.md (ph i)) (j + 1) = false) := by
              show Rm.anyZ _ (j + 1) = false
              unfold Rm.anyZ
              rw [HA.out, hz1]
              rfl
            clear hz HM
            go_wp2_with (first | (go_at_call 58; refine (l2Mod_any _ _).mono ?_; rintro e w1 ⟨rfl, rfl⟩))
            exact ⟨⟨by trivial, j + 1, by omega, by simp, HA2⟩, by simp [intOf]; omega⟩
        · obtain rfl : j = np := by omega
          go_wp2_with fail
          clear x0 x1 x2
          obtain ⟨V, hV⟩ : ∃ V, V = wr := ⟨_, rfl⟩
          subst hV
          go_loopw [6] (fun i wr => ∃ t : Nat, t ≤ k ∧ i = .int .i64 t ∧ Hid (Below X.heap.size X wr) ∧ Hid (Rm.anyZ (fun i => Rm.cdet (C i)) t = false)) (fun i _ => k - (intOf i).toNat)
          case atStart => exact ⟨0, Nat.zero_le _, rfl, BY.out.2, rfl⟩
          case round =>
            obtain ⟨t, ht, rfl, HB, HZ⟩ := hrel
            have hB := BX.out.1.old HB.out
            have x0 := hB.cell (j := 0) rfl
            have x1 := hB.cell (j := 1) rfl
            have x2 := hB.cell (j := 2) rfl
            have hlt := hB.lt
            clear hB
            by_cases htn : t < k
            · obtain ⟨b, rfl, hc⟩ := (HM wr HB.out).out.c.at htn
              have g0 : wr.cell? ⟨b, t * 6, none⟩ = some (.int .i64 (C t).i) := hc 0 (by omega)
              have g1 : wr.cell? ⟨b, t * 6 + 1, none⟩ = some (.int .i64 (C t).j) := hc 1 (by omega)
              have g2 : wr.cell? ⟨b, t * 6 + 2, none⟩ = some (.int .i64 (C t).a) := hc 2 (by omega)
              have g3 : wr.cell? ⟨b, t * 6 + 3, none⟩ = some (.int .i64 (C t).b) := hc 3 (by omega)
              have g4 : wr.cell? ⟨b, t * 6 + 4, none⟩ = some (.int .i64 (C t).c) := hc 4 (by omega)
              have g5 : wr.cell? ⟨b, t * 6 + 5, none⟩ = some (.int .i64 (C t).d) := hc 5 (by omega)
              clear hc HM
              by_cases hz : Rm.cdet (C t) = 0
              · have hd : Hid (Rm.det j ph k C = 0) := by
                  show Rm.det j ph k C = 0
                  have := Rm.det_nought j ph k C
                  rw [Rm.anyZ_hit (f := fun i => Rm.cdet (C i)) htn hz] at this
                  simpa using this
                have hm : Hid (Rm.mfault sd _ ph _ C = 6) := mf_six h24 hnI hs1 HE.out HF.out hd.out
                have HZ0 : Hid (Rm.cdet (C t) = 0) := hz
                clear hz hd
                go_wp2_with (first | (go_at_call 67; refine (sDet_any (C t) _).mono ?_; rintro e w1 ⟨rfl, hb1⟩; rw [HZ0.out]))
                go_ret
                exact ⟨by rw [hm.out]; rfl, BX.out.2.trans ((HB.out.trans (hb1.mono HB.out.size)).mono (Nat.le_of_lt hX0))⟩
              · have hz1 : (Rm.cdet (C t) == 0) = false := by simpa using hz
                have HA2 : Hid (Rm.anyZ (fun i => Rm.cdet (C i)) (t + 1) = false) := by
                  show Rm.anyZ _ (t + 1) = false
                  unfold Rm.anyZ
                  rw [HZ.out, hz1]
                  rfl
                clear hz
                go_wp2_with (first | (go_at_call 67; refine (sDet_any (C t) _).mono ?_; rintro e w1 ⟨rfl, hb1⟩))
                exact ⟨⟨t + 1, by omega, by simp, HB.out.trans (hb1.mono HB.out.size), HA2⟩, by simp [intOf]; omega⟩
            · obtain rfl : t = k := by omega
              have hd : Hid (Rm.det j ph t C ≠ 0) := by
                show Rm.det j ph t C ≠ 0
                have := Rm.det_nought j ph t C
                rw [HA.out, HZ.out] at this
                simpa using this
              have hm : Hid (Rm.mfault sd _ ph _ C = 0) := mf_nil h24 hnI hs1 HE.out HF.out hd.out
              clear HM
              go_wp2
              go_ret
              exact ⟨by rw [hm.out]; rfl, BX.out.2.trans (HB.out.mono (Nat.le_of_lt hX0))⟩
theorem sMf_any {w : World} {ao bo : Option Addr} {np nc cp cq : Nat} {sd : Int} {ph : Nat → Int} {C : Nat → Ce} (h : Me w (.slice ao np cp) (.slice bo nc cq) np ph nc C) (hp : np ≤ 1048576) (hn : nc ≤ 1048576) :
    Calls Try.prog 31 #[.agg #[.int .i64 sd, .slice ao np cp, .slice bo nc cq]] w fun e w' => e = .returned (.int .i64 (Rm.mfault sd np ph nc C)) ∧ Below w.heap.size w w' := by
  by_cases hq : 24 < sd ∨ 600 < (nc : Int) ∨ sd < 1 ∨ (np : Int) ≠ sd
  · exact sMf_early h hp hn hq
  · exact sMf_go h (by omega) (by omega) (by omega) (by omega)
end Go.Proofs.Ytboppklcmdfphaa
