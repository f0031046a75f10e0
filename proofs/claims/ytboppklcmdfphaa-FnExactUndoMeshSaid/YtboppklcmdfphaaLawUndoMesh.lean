/- At every argument the program's UndoMesh answers as the specification, code and mesh, where the law's own bound on the sizes does not answer first; what it answers owns its memory; nothing that was there is changed. -/
import Derived.Test.YtboppklcmdfphaaUv
import Derived.Test.YtboppklcmdfphaaPs
import Derived.Test.YtboppklcmdfphaaAux
import Derived.Handy
import Derived.Deep.RegionHeld3
import Derived.Deep.DeepCutAuto
namespace Go.Proofs.Ytboppklcmdfphaa
open Go.RowKit
set_option linter.unusedVariables false
set_option linter.unusedSimpArgs false
theorem OutR.some {w : World} {c : Int} {v : Value} {n : Nat} {F : Rm.Mx} (h : OutR w c v n F) (h0 : c = 0) (hn : 0 < n) : ∃ b off cap, v = .slice (some ⟨b, off, none⟩) n cap ∧ RdMat w (.slice (some ⟨b, off, none⟩) n cap) n (fun _ => n) F := by
  rcases h with ⟨h1, _⟩ | ⟨_, h⟩
  · exact absurd h0 h1
  · rcases id h with ⟨_, _, _, e⟩ | ⟨b, off, cap, vs, rfl, hv⟩
    · omega
    · exact ⟨b, off, cap, rfl, h⟩
set_option maxRecDepth 20000 in
set_option maxHeartbeats 3200000 in
theorem sUndo_any {w : World} {ao bo : Option Addr} {np nc cp cq : Nat} {sd : Int} {ph : Nat → Int} {C : Nat → Ce} (h : Me w (.slice ao np cp) (.slice bo nc cq) np ph nc C) (hp : np ≤ 1048576) (hn : nc ≤ 1048576) {c : Int} (hc : c = Rm.mfault sd np ph nc C) :
    Calls Try.prog 48 #[.agg #[.int .i64 sd, .slice ao np cp, .slice bo nc cq]] w fun e w' => ∃ v0 v1, e = .returned (.agg #[.int .i64 (ucd c np nc ph C), .int .i64 (usd c np nc ph C), v0, v1]) ∧ MeO w.heap.size w'.heap.size w' v0 v1 (unp c np nc ph C) (pph np (fun _ => np) (uA np nc ph C)) (unc c np nc ph C) (pC np (fun _ => np) (uA np nc ph C)) ∧ Below w.heap.size w w' := by
  obtain ⟨X, hX⟩ : ∃ X, X = (w.alloc (.cells #[.int .i64 sd, .slice ao np cp, .slice bo nc cq] 49)).alloc (.cells #[.int .i64 0, .int .i64 0, .slice none 0 0, .slice none 0 0] 61) := ⟨_, rfl⟩
  have BX : Hid (Blk X w.heap.size #[.int .i64 sd, .slice ao np cp, .slice bo nc cq] 49 ∧ Below w.heap.size w X ∧ Blk X (w.heap.size + 1) #[.int .i64 0, .int .i64 0, .slice none 0 0, .slice none 0 0] 61 ∧ X.heap.size = w.heap.size + 1 + 1) := by rw [hX]; exact ⟨(Blk.new rfl).alloc _, ((Below.refl _ _).alloc (Nat.le_refl _) _).alloc (by simp) _, Blk.new (by simp), by simp⟩
  have zX : X.heap.size = w.heap.size + 1 + 1 := BX.out.2.2.2
  have HM : ∀ W, Below X.heap.size X W → Hid (Me W (.slice ao np cp) (.slice bo nc cq) np ph nc C) := fun W hb => h.later (BX.out.2.1.trans (hb.mono (by omega)))
  clear h
  have HCC : Hid (c = Rm.mfault sd np ph nc C) := hc
  clear hc
  go_enter Try.func48, Try.ntmps48
  go_wp2_with fail
  rw [← hX]
  clear hX
  refine (sMf_any (HM _ (Below.refl _ _)).out hp hn).mono ?_
  rintro e w1 ⟨rfl, hb1⟩
  rw [← HCC.out]
  have z1 := hb1.size
  have HB1 : Hid (Below X.heap.size X w1) := hb1
  have HW1 : Hid (Blk w1 (w.heap.size + 1) #[.int .i64 0, .int .i64 0, .slice none 0 0, .slice none 0 0] 61 ∧ Below w.heap.size w w1) := ⟨BX.out.2.2.1.old hb1, BX.out.2.1.trans (hb1.mono (by omega))⟩
  by_cases h0 : c = 0
  · have hok := Rm.mfault_ok (HCC.out.symm.trans h0)
    have hp24 : np ≤ 24 := by omega
    have hp0 : 0 < np := by omega
    have hc600 : nc ≤ 600 := by omega
    have HFT : Hid ((np : Int) = sd ∧ Rm.fitsB (np : Int) C nc = true) := ⟨hok.2.2.2.1, by rw [hok.2.2.2.1]; exact hok.2.2.2.2⟩
    clear hok
    have hB := BX.out.1.old hb1
    have y0 := hB.cell (j := 0) rfl
    have y1 := hB.cell (j := 1) rfl
    have y2 := hB.cell (j := 2) rfl
    have hl := hB.lt
    have hc1 : (c != 0) = false := by simp [h0]
    have HC0 : Hid (c = 0) := h0
    clear hB hb1 h0
    go_wp2_with fail
    refine (sRead_any (HM _ HB1.out).out hp0 hp24 hc600 HFT.out.1 HFT.out.2).mono ?_
    rintro e wm ⟨m, rfl, hm, hbm⟩
    have zm := hbm.size
    have HWm : Hid (Blk wm (w.heap.size + 1) #[.int .i64 0, .int .i64 0, .slice none 0 0, .slice none 0 0] 61 ∧ Below w.heap.size w wm) := ⟨HW1.out.1.old hbm, HW1.out.2.trans (hbm.mono (by omega))⟩
    have HMM : Hid (RdMat wm (.slice (some ⟨m.b, 0, none⟩) np m.cap) np (fun _ => np) (rdm ph C nc)) := hm.rd
    clear y0 y1 y2 hl HB1 HM HW1 hm hbm BX
    go_wp2_with fail
    refine (sInvR_any HMM.out (by omega) (fun _ _ => by omega)).mono ?_
    rintro e w2 ⟨v2, rfl, ho2, hb2⟩
    have z2 := hb2.size
    have HW2 : Hid (Blk w2 (w.heap.size + 1) #[.int .i64 0, .int .i64 0, .slice none 0 0, .slice none 0 0] 61 ∧ Below w.heap.size w w2) := ⟨HWm.out.1.old hb2, HWm.out.2.trans (hb2.mono (by omega))⟩
    clear HWm hb2 HMM
    have hfl := field25_1
    by_cases hi : uic np nc ph C = 0
    · have HU : Hid (uok c np nc ph C) := ⟨HC0.out, hi⟩
      obtain ⟨b2, off2, cap2, rfl, hr2⟩ := ho2.some hi hp0
      have HM2 : Hid (RdMat w2 (.slice (some ⟨b2, off2, none⟩) np cap2) np (fun _ => np) (uA np nc ph C)) := hr2
      clear ho2 hr2 hi
      go_wp2_with fail
      refine (sProg_any _ _ _ HM2.out (by omega) (fun _ _ => by omega)).mono ?_
      rintro e w3 ⟨v3, v4, rfl, hme, hb3⟩
      obtain ⟨sa, sc, sb, sq, e3, e4⟩ := hme.rd.shape
      subst e3
      subst e4
      have z3 := hb3.size
      have HW3 : Hid (Blk w3 (w.heap.size + 1) #[.int .i64 0, .int .i64 0, .slice none 0 0, .slice none 0 0] 61 ∧ Below w.heap.size w w3) := ⟨HW2.out.1.old hb3, HW2.out.2.trans (hb3.mono (by omega))⟩
      have HME := show Hid _ from hme
      clear HW2 HM2 hme hb3
      have r0 := HW3.out.1.cell (j := 0) rfl
      have r1 := HW3.out.1.cell (j := 1) rfl
      have r2 := HW3.out.1.cell (j := 2) rfl
      have r3 := HW3.out.1.cell (j := 3) rfl
      have rf := HW3.out.1.frozen
      have rl := HW3.out.1.lt
      go_wp2
      obtain ⟨u1, u2, u3, u4⟩ := u_good HU.out
      refine bodyPost_ret (res_of (cs := #[.int .i64 (pcd np (fun _ => np) (uA np nc ph C)), .int .i64 (psd np (fun _ => np) (uA np nc ph C)), .slice sa (pnp np (fun _ => np) (uA np nc ph C)) sc, .slice sb (pnc np (fun _ => np) (uA np nc ph C)) sq]) Try.results48 rfl (((((HW3.out.1).set 0 _ rfl).set 1 _ rfl).set 2 _ rfl).set 3 _ rfl) Try.underlying61 (by kernel_rfl)) rfl ⟨_, _, by rw [u1, u2], ?_, ?_⟩
      · rw [u3, u4]
        exact (meO_four HME.out (by omega)).wide (by omega) (Nat.le_refl _)
      · have h1 := HW3.out.2
        repeat (first | exact h1 | (refine Below.setCell ?_ (by simp <;> omega) _))
    · have HU : Hid (ucd c np nc ph C = 1 ∧ usd c np nc ph C = 0 ∧ unp c np nc ph C = 0 ∧ unc c np nc ph C = 0) := ⟨by unfold ucd; simp [HC0.out, hi], u_bad (fun h => hi h.2)⟩
      obtain rfl : v2 = .slice none 0 0 := by
        rcases ho2 with ⟨_, e⟩ | ⟨h1, _⟩
        · exact e
        · exact absurd h1 hi
      clear ho2 hi
      go_wp2_with fail
      refine (sProg_nil _).mono ?_
      rintro e w3 ⟨rfl, hb3⟩
      have z3 := hb3.size
      have HW3 : Hid (Blk w3 (w.heap.size + 1) #[.int .i64 0, .int .i64 0, .slice none 0 0, .slice none 0 0] 61 ∧ Below w.heap.size w w3) := ⟨HW2.out.1.old hb3, HW2.out.2.trans (hb3.mono (by omega))⟩
      clear HW2 hb3
      have r0 := HW3.out.1.cell (j := 0) rfl
      have r1 := HW3.out.1.cell (j := 1) rfl
      have r2 := HW3.out.1.cell (j := 2) rfl
      have r3 := HW3.out.1.cell (j := 3) rfl
      have rf := HW3.out.1.frozen
      have rl := HW3.out.1.lt
      go_wp2
      refine bodyPost_ret (res_of (cs := #[.int .i64 1, .int .i64 0, .slice none 0 0, .slice none 0 0]) Try.results48 rfl (((((HW3.out.1).set 0 _ rfl).set 1 _ rfl).set 2 _ rfl).set 3 _ rfl) Try.underlying61 (by kernel_rfl)) rfl ⟨.slice none 0 0, .slice none 0 0, by rw [HU.out.1, HU.out.2.1], by rw [HU.out.2.2.1, HU.out.2.2.2]; exact MeO.nil _ _ _ _ _, ?_⟩
      have h1 := HW3.out.2
      repeat (first | exact h1 | (refine Below.setCell ?_ (by simp <;> omega) _))
  · have HU : Hid (ucd c np nc ph C = c ∧ usd c np nc ph C = 0 ∧ unp c np nc ph C = 0 ∧ unc c np nc ph C = 0) := ⟨by unfold ucd; simp [h0], u_bad (fun h => h0 h.1)⟩
    have hc1 : (c != 0) = true := by rw [bne_iff_ne]; exact h0
    clear h0 hb1 HM
    have r0 := HW1.out.1.cell (j := 0) rfl
    have r1 := HW1.out.1.cell (j := 1) rfl
    have r2 := HW1.out.1.cell (j := 2) rfl
    have r3 := HW1.out.1.cell (j := 3) rfl
    have rf := HW1.out.1.frozen
    have rl := HW1.out.1.lt
    go_wp2
    refine bodyPost_ret (res_of (cs := #[.int .i64 c, .int .i64 0, .slice none 0 0, .slice none 0 0]) Try.results48 rfl (((((HW1.out.1).set 0 _ rfl).set 1 _ rfl).set 2 _ rfl).set 3 _ rfl) Try.underlying61 (by kernel_rfl)) rfl ⟨.slice none 0 0, .slice none 0 0, by rw [HU.out.1, HU.out.2.1], by rw [HU.out.2.2.1, HU.out.2.2.2]; exact MeO.nil _ _ _ _ _, ?_⟩
    have h1 := HW1.out.2
    repeat (first | exact h1 | (refine Below.setCell ?_ (by simp <;> omega) _))
end Go.Proofs.Ytboppklcmdfphaa
namespace Go.Proofs.Ytboppklcmdfphaa.LawUndoMesh
open Go.ChangeShapes Go.WideShapes Go.ChangeAt Go.RowKit Go.Joins
set_option linter.unusedVariables false

set_option maxHeartbeats 4000000 in
set_option maxRecDepth 20000 in
theorem walk {w : World} {sd0 : Int} {ao0 bo0 : Option Addr} {np0 cp0 nc0 cq0 : Nat} {ph0 : Nat → Int} {C0 : Nat → Ce} (hp0 : RdRow w (.slice ao0 np0 cp0) np0 ph0) (hc0 : RdV w (.slice bo0 nc0 cq0) nc0 6 (fun i j => ccell (C0 i) j)) (bp0 : np0 ≤ 9223372036854775807) (bc0 : nc0 ≤ 9223372036854775807) :
    Calls Try.prog 9 #[.agg #[.int .i64 sd0, .slice ao0 np0 cp0, .slice bo0 nc0 cq0]] w fun e w' => e = .returned (.bool true) ∧ Below w.heap.size w w' := by
  have H0 : Hid (RdRow w (.slice ao0 np0 cp0) np0 ph0 ∧ RdV w (.slice bo0 nc0 cq0) nc0 6 (fun i j => ccell (C0 i) j)) := ⟨hp0, hc0⟩
  clear hp0 hc0
  have D_w : Hid (Below w.heap.size w w) := Below.refl _ _
  have zw : w.heap.size ≤ w.heap.size := Nat.le_refl _
  obtain ⟨c, hcc⟩ : ∃ c, c = Rm.mfault sd0 np0 ph0 nc0 C0 := ⟨_, rfl⟩
  have HCC : Hid (c = Rm.mfault sd0 np0 ph0 nc0 C0) := hcc
  clear hcc
  go_enter Try.func9, Try.ntmps9
  go_wp2_with fail
  obtain ⟨w1, hwd⟩ : ∃ W, W = (w.alloc (.cells #[.int .i64 sd0, .slice ao0 np0 cp0, .slice bo0 nc0 cq0] 44)) := ⟨_, rfl⟩
  have B_a0 : Hid (Blk w1 w.heap.size #[.int .i64 sd0, .slice ao0 np0 cp0, .slice bo0 nc0 cq0] 44) := by rw [hwd]; exact Blk.new rfl
  have hbb : Below w.heap.size w w1 := by rw [hwd]; exact (Below.refl _ _).alloc (Nat.le_refl _) _
  rw [← hwd]
  clear hwd
  have zw1 : w.heap.size ≤ w1.heap.size := hbb.size
  replace D_w : Hid (Below w.heap.size w w1) := D_w.out.trans (hbb.mono (by omega))
  clear hbb
  refine (szMe_any _ _ _ _ _ _ _ 1048576 _ (by omega) (by omega) bp0 bc0).mono ?_
  rintro e w2 ⟨rfl, hbb⟩
  have zw2 : w1.heap.size ≤ w2.heap.size := hbb.size
  replace B_a0 : Hid (Blk w2 w.heap.size #[.int .i64 sd0, .slice ao0 np0 cp0, .slice bo0 nc0 cq0] 44) := B_a0.out.old hbb
  replace D_w : Hid (Below w.heap.size w w2) := D_w.out.trans (hbb.mono (by omega))
  clear hbb
  obtain ⟨left0, hleft0⟩ : ∃ l, l = szM 1048576 np0 nc0 := ⟨_, rfl⟩
  rw [← hleft0]
  by_cases hr0 : left0 < 0
  · go_wp2
    go_ret
    exact ⟨rfl, D_w.out⟩
  have hs0 := szM_ok (hleft0 ▸ hr0)
  have hs0b : left0 ≤ 1048576 := by rw [hleft0]; exact szM_le _ _ _ (by omega)
  clear hleft0
  have hb1 : unp c np0 nc0 ph0 C0 ≤ 24 := unp_le c np0 nc0 ph0 C0
  have hb2 : unc c np0 nc0 ph0 C0 ≤ 576 := unc_le c np0 nc0 ph0 C0
  have c_a0_0 := B_a0.out.cell (j := 0) rfl
  have c_a0_1 := B_a0.out.cell (j := 1) rfl
  have c_a0_2 := B_a0.out.cell (j := 2) rfl
  have l_a0 := B_a0.out.lt
  go_wp2_with fail
  refine (toMe_any (H0.out.1.later D_w.out) (H0.out.2.later D_w.out) (by omega) (by omega)).mono ?_
  rintro e w3 ⟨gac0, gbc0, rfl, hmo, hbb⟩
  clear c_a0_0 c_a0_1 c_a0_2 l_a0
  have zw3 : w2.heap.size ≤ w3.heap.size := hbb.size
  replace B_a0 : Hid (Blk w3 w.heap.size #[.int .i64 sd0, .slice ao0 np0 cp0, .slice bo0 nc0 cq0] 44) := B_a0.out.old hbb
  replace D_w : Hid (Below w.heap.size w w3) := D_w.out.trans (hbb.mono (by omega))
  clear hbb
  have O_c0 : Hid (MeO w2.heap.size w3.heap.size w3 (.slice (some ⟨gac0, 0, none⟩) np0 np0) (.slice (some ⟨gbc0, 0, none⟩) nc0 nc0) np0 ph0 nc0 C0) := hmo
  clear hmo
  go_wp2_with fail
  refine (sUndo_any O_c0.out.rd (by omega) (by omega) HCC.out).mono ?_
  rintro e w4 ⟨s0, s1, rfl, hoo, hbb⟩
  obtain ⟨sa, sc, sb, sq, es0, es1⟩ := (hoo.rd).shape
  subst es0
  subst es1
  have RS0 : Hid (Me w4 (.slice sa (unp c np0 nc0 ph0 C0) sc) (.slice sb (unc c np0 nc0 ph0 C0) sq) (unp c np0 nc0 ph0 C0) (pph np0 (fun _ => np0) (uA np0 nc0 ph0 C0)) (unc c np0 nc0 ph0 C0) (pC np0 (fun _ => np0) (uA np0 nc0 ph0 C0))) := hoo.rd
  clear hoo
  have zw4 : w3.heap.size ≤ w4.heap.size := hbb.size
  replace B_a0 : Hid (Blk w4 w.heap.size #[.int .i64 sd0, .slice ao0 np0 cp0, .slice bo0 nc0 cq0] 44) := B_a0.out.old hbb
  replace O_c0 : Hid (MeO w2.heap.size w3.heap.size w4 (.slice (some ⟨gac0, 0, none⟩) np0 np0) (.slice (some ⟨gbc0, 0, none⟩) nc0 nc0) np0 ph0 nc0 C0) := O_c0.out.keep (keep_below hbb (by omega))
  replace D_w : Hid (Below w.heap.size w w4) := D_w.out.trans (hbb.mono (by omega))
  clear hbb
  clear O_c0
  have c_a0_0 := B_a0.out.cell (j := 0) rfl
  have c_a0_1 := B_a0.out.cell (j := 1) rfl
  have c_a0_2 := B_a0.out.cell (j := 2) rfl
  have l_a0 := B_a0.out.lt
  go_wp2_with fail
  obtain ⟨w5, hwd⟩ : ∃ W, W = w4.alloc (.cells #[.int .i64 (ucd c np0 nc0 ph0 C0), .int .i64 (usd c np0 nc0 ph0 C0), .slice sa (unp c np0 nc0 ph0 C0) sc, .slice sb (unc c np0 nc0 ph0 C0) sq] 61) := ⟨_, rfl⟩
  have NB : Hid (Blk w5 w4.heap.size #[.int .i64 (ucd c np0 nc0 ph0 C0), .int .i64 (usd c np0 nc0 ph0 C0), .slice sa (unp c np0 nc0 ph0 C0) sc, .slice sb (unc c np0 nc0 ph0 C0) sq] 61) := by rw [hwd]; exact Blk.new rfl
  have hbb : Below w4.heap.size w4 w5 := by rw [hwd]; exact (Below.refl _ _).alloc (Nat.le_refl _) _
  have yw5 : w4.heap.size + 1 ≤ w5.heap.size := by rw [hwd]; simp
  have HWD : Hid (w5 = w4.alloc (.cells #[.int .i64 (ucd c np0 nc0 ph0 C0), .int .i64 (usd c np0 nc0 ph0 C0), .slice sa (unp c np0 nc0 ph0 C0) sc, .slice sb (unc c np0 nc0 ph0 C0) sq] 61)) := hwd
  rw [← hwd]
  clear hwd
  clear c_a0_0 c_a0_1 c_a0_2 l_a0
  have zw5 : w4.heap.size ≤ w5.heap.size := hbb.size
  replace B_a0 : Hid (Blk w5 w.heap.size #[.int .i64 sd0, .slice ao0 np0 cp0, .slice bo0 nc0 cq0] 44) := B_a0.out.old hbb
  replace D_w : Hid (Below w.heap.size w w5) := D_w.out.trans (hbb.mono (by omega))
  clear hbb
  have B_S := NB
  clear NB
  have RS : Hid (Me w5 (.slice sa (unp c np0 nc0 ph0 C0) sc) (.slice sb (unc c np0 nc0 ph0 C0) sq) (unp c np0 nc0 ph0 C0) (pph np0 (fun _ => np0) (uA np0 nc0 ph0 C0)) (unc c np0 nc0 ph0 C0) (pC np0 (fun _ => np0) (uA np0 nc0 ph0 C0))) := RS0.out.later (show Below w4.heap.size w4 w5 from by rw [HWD.out]; exact (Below.refl _ _).alloc (Nat.le_refl _) _)
  clear RS0 HWD
  have D_w5 : Hid (Below w5.heap.size w5 w5) := Below.refl _ _
  refine (toMe_any (H0.out.1.later D_w.out) (H0.out.2.later D_w.out) (by omega) (by omega)).mono ?_
  rintro e w6 ⟨gax0, gbx0, rfl, hmo, hbb⟩
  have zw6 : w5.heap.size ≤ w6.heap.size := hbb.size
  replace B_a0 : Hid (Blk w6 w.heap.size #[.int .i64 sd0, .slice ao0 np0 cp0, .slice bo0 nc0 cq0] 44) := B_a0.out.old hbb
  replace B_S : Hid (Blk w6 w4.heap.size #[.int .i64 (ucd c np0 nc0 ph0 C0), .int .i64 (usd c np0 nc0 ph0 C0), .slice sa (unp c np0 nc0 ph0 C0) sc, .slice sb (unc c np0 nc0 ph0 C0) sq] 61) := B_S.out.old hbb
  replace D_w : Hid (Below w.heap.size w w6) := D_w.out.trans (hbb.mono (by omega))
  replace D_w5 : Hid (Below w5.heap.size w5 w6) := D_w5.out.trans (hbb.mono (by omega))
  clear hbb
  have O_x0 : Hid (MeO w5.heap.size w6.heap.size w6 (.slice (some ⟨gax0, 0, none⟩) np0 np0) (.slice (some ⟨gbx0, 0, none⟩) nc0 nc0) np0 ph0 nc0 C0) := hmo
  clear hmo
  go_wp2_with fail
  obtain ⟨w7, hwd⟩ : ∃ W, W = w6.alloc (.cells #[.int .i64 sd0, .slice (some ⟨gax0, 0, none⟩) np0 np0, .slice (some ⟨gbx0, 0, none⟩) nc0 nc0] 49) := ⟨_, rfl⟩
  have NB : Hid (Blk w7 w6.heap.size #[.int .i64 sd0, .slice (some ⟨gax0, 0, none⟩) np0 np0, .slice (some ⟨gbx0, 0, none⟩) nc0 nc0] 49) := by rw [hwd]; exact Blk.new rfl
  have hbb : Below w6.heap.size w6 w7 := by rw [hwd]; exact (Below.refl _ _).alloc (Nat.le_refl _) _
  have yw7 : w6.heap.size + 1 ≤ w7.heap.size := by rw [hwd]; simp
  rw [← hwd]
  clear hwd
  have zw7 : w6.heap.size ≤ w7.heap.size := hbb.size
  replace B_a0 : Hid (Blk w7 w.heap.size #[.int .i64 sd0, .slice ao0 np0 cp0, .slice bo0 nc0 cq0] 44) := B_a0.out.old hbb
  replace B_S : Hid (Blk w7 w4.heap.size #[.int .i64 (ucd c np0 nc0 ph0 C0), .int .i64 (usd c np0 nc0 ph0 C0), .slice sa (unp c np0 nc0 ph0 C0) sc, .slice sb (unc c np0 nc0 ph0 C0) sq] 61) := B_S.out.old hbb
  replace O_x0 : Hid (MeO w5.heap.size w6.heap.size w7 (.slice (some ⟨gax0, 0, none⟩) np0 np0) (.slice (some ⟨gbx0, 0, none⟩) nc0 nc0) np0 ph0 nc0 C0) := O_x0.out.keep (keep_below hbb (by omega))
  replace D_w : Hid (Below w.heap.size w w7) := D_w.out.trans (hbb.mono (by omega))
  replace D_w5 : Hid (Below w5.heap.size w5 w7) := D_w5.out.trans (hbb.mono (by omega))
  clear hbb
  have B_x0 := NB
  clear NB
  refine (iUndo_any O_x0.out.rd (by omega) (by omega) HCC.out).mono ?_
  rintro e w8 ⟨g0, g1, rfl, hoo, hbb⟩
  obtain ⟨ga, gc, gb, gq, e0, e1⟩ := hoo.rd.shape
  subst e0
  subst e1
  have zw8 : w7.heap.size ≤ w8.heap.size := hbb.size
  replace B_a0 : Hid (Blk w8 w.heap.size #[.int .i64 sd0, .slice ao0 np0 cp0, .slice bo0 nc0 cq0] 44) := B_a0.out.old hbb
  replace B_S : Hid (Blk w8 w4.heap.size #[.int .i64 (ucd c np0 nc0 ph0 C0), .int .i64 (usd c np0 nc0 ph0 C0), .slice sa (unp c np0 nc0 ph0 C0) sc, .slice sb (unc c np0 nc0 ph0 C0) sq] 61) := B_S.out.old hbb
  replace B_x0 : Hid (Blk w8 w6.heap.size #[.int .i64 sd0, .slice (some ⟨gax0, 0, none⟩) np0 np0, .slice (some ⟨gbx0, 0, none⟩) nc0 nc0] 49) := B_x0.out.old hbb
  replace O_x0 : Hid (MeO w5.heap.size w6.heap.size w8 (.slice (some ⟨gax0, 0, none⟩) np0 np0) (.slice (some ⟨gbx0, 0, none⟩) nc0 nc0) np0 ph0 nc0 C0) := O_x0.out.keep (keep_below hbb (by omega))
  replace D_w : Hid (Below w.heap.size w w8) := D_w.out.trans (hbb.mono (by omega))
  replace D_w5 : Hid (Below w5.heap.size w5 w8) := D_w5.out.trans (hbb.mono (by omega))
  have O_g : Hid (MeO w7.heap.size w8.heap.size w8 (.slice ga (unp c np0 nc0 ph0 C0) gc) (.slice gb (unc c np0 nc0 ph0 C0) gq) (unp c np0 nc0 ph0 C0) (pph np0 (fun _ => np0) (uA np0 nc0 ph0 C0)) (unc c np0 nc0 ph0 C0) (pC np0 (fun _ => np0) (uA np0 nc0 ph0 C0))) := hoo
  clear hoo hbb
  have c_S_0 := B_S.out.cell (j := 0) rfl
  have c_S_1 := B_S.out.cell (j := 1) rfl
  have c_S_2 := B_S.out.cell (j := 2) rfl
  have c_S_3 := B_S.out.cell (j := 3) rfl
  have l_S := B_S.out.lt
  go_wp2_with fail
  obtain ⟨w9, hwd⟩ : ∃ W, W = w8.alloc (.cells #[.int .i64 (ucd c np0 nc0 ph0 C0), .int .i64 (usd c np0 nc0 ph0 C0), .slice ga (unp c np0 nc0 ph0 C0) gc, .slice gb (unc c np0 nc0 ph0 C0) gq] 61) := ⟨_, rfl⟩
  have NB : Hid (Blk w9 w8.heap.size #[.int .i64 (ucd c np0 nc0 ph0 C0), .int .i64 (usd c np0 nc0 ph0 C0), .slice ga (unp c np0 nc0 ph0 C0) gc, .slice gb (unc c np0 nc0 ph0 C0) gq] 61) := by rw [hwd]; exact Blk.new rfl
  have hbb : Below w8.heap.size w8 w9 := by rw [hwd]; exact (Below.refl _ _).alloc (Nat.le_refl _) _
  have yw9 : w8.heap.size + 1 ≤ w9.heap.size := by rw [hwd]; simp
  rw [← hwd]
  clear hwd
  clear c_S_0 c_S_1 c_S_2 c_S_3 l_S
  have zw9 : w8.heap.size ≤ w9.heap.size := hbb.size
  replace B_a0 : Hid (Blk w9 w.heap.size #[.int .i64 sd0, .slice ao0 np0 cp0, .slice bo0 nc0 cq0] 44) := B_a0.out.old hbb
  replace B_S : Hid (Blk w9 w4.heap.size #[.int .i64 (ucd c np0 nc0 ph0 C0), .int .i64 (usd c np0 nc0 ph0 C0), .slice sa (unp c np0 nc0 ph0 C0) sc, .slice sb (unc c np0 nc0 ph0 C0) sq] 61) := B_S.out.old hbb
  replace B_x0 : Hid (Blk w9 w6.heap.size #[.int .i64 sd0, .slice (some ⟨gax0, 0, none⟩) np0 np0, .slice (some ⟨gbx0, 0, none⟩) nc0 nc0] 49) := B_x0.out.old hbb
  replace O_x0 : Hid (MeO w5.heap.size w6.heap.size w9 (.slice (some ⟨gax0, 0, none⟩) np0 np0) (.slice (some ⟨gbx0, 0, none⟩) nc0 nc0) np0 ph0 nc0 C0) := O_x0.out.keep (keep_below hbb (by omega))
  replace O_g : Hid (MeO w7.heap.size w8.heap.size w9 (.slice ga (unp c np0 nc0 ph0 C0) gc) (.slice gb (unc c np0 nc0 ph0 C0) gq) (unp c np0 nc0 ph0 C0) (pph np0 (fun _ => np0) (uA np0 nc0 ph0 C0)) (unc c np0 nc0 ph0 C0) (pC np0 (fun _ => np0) (uA np0 nc0 ph0 C0))) := O_g.out.keep (keep_below hbb (by omega))
  replace D_w : Hid (Below w.heap.size w w9) := D_w.out.trans (hbb.mono (by omega))
  replace D_w5 : Hid (Below w5.heap.size w5 w9) := D_w5.out.trans (hbb.mono (by omega))
  clear hbb
  have B_G := NB
  clear NB
  refine (eqMR_any O_g.out.rd (RS.out.later D_w5.out) (by omega) (by omega)).mono ?_
  rintro e w10 ⟨rfl, hbb⟩
  have zw10 : w9.heap.size ≤ w10.heap.size := hbb.size
  replace B_a0 : Hid (Blk w10 w.heap.size #[.int .i64 sd0, .slice ao0 np0 cp0, .slice bo0 nc0 cq0] 44) := B_a0.out.old hbb
  replace B_S : Hid (Blk w10 w4.heap.size #[.int .i64 (ucd c np0 nc0 ph0 C0), .int .i64 (usd c np0 nc0 ph0 C0), .slice sa (unp c np0 nc0 ph0 C0) sc, .slice sb (unc c np0 nc0 ph0 C0) sq] 61) := B_S.out.old hbb
  replace B_x0 : Hid (Blk w10 w6.heap.size #[.int .i64 sd0, .slice (some ⟨gax0, 0, none⟩) np0 np0, .slice (some ⟨gbx0, 0, none⟩) nc0 nc0] 49) := B_x0.out.old hbb
  replace B_G : Hid (Blk w10 w8.heap.size #[.int .i64 (ucd c np0 nc0 ph0 C0), .int .i64 (usd c np0 nc0 ph0 C0), .slice ga (unp c np0 nc0 ph0 C0) gc, .slice gb (unc c np0 nc0 ph0 C0) gq] 61) := B_G.out.old hbb
  replace O_x0 : Hid (MeO w5.heap.size w6.heap.size w10 (.slice (some ⟨gax0, 0, none⟩) np0 np0) (.slice (some ⟨gbx0, 0, none⟩) nc0 nc0) np0 ph0 nc0 C0) := O_x0.out.keep (keep_below hbb (by omega))
  replace O_g : Hid (MeO w7.heap.size w8.heap.size w10 (.slice ga (unp c np0 nc0 ph0 C0) gc) (.slice gb (unc c np0 nc0 ph0 C0) gq) (unp c np0 nc0 ph0 C0) (pph np0 (fun _ => np0) (uA np0 nc0 ph0 C0)) (unc c np0 nc0 ph0 C0) (pC np0 (fun _ => np0) (uA np0 nc0 ph0 C0))) := O_g.out.keep (keep_below hbb (by omega))
  replace D_w : Hid (Below w.heap.size w w10) := D_w.out.trans (hbb.mono (by omega))
  replace D_w5 : Hid (Below w5.heap.size w5 w10) := D_w5.out.trans (hbb.mono (by omega))
  clear hbb
  have q_x0_0 : ∀ W, Below w10.heap.size w10 W → W.cell? ⟨w6.heap.size, 0, none⟩ = some (.int .i64 sd0) := fun W h => (B_x0.out.old h).cell (j := 0) rfl
  have q_x0_1 : ∀ W, Below w10.heap.size w10 W → W.cell? ⟨w6.heap.size, 1, none⟩ = some (.slice (some ⟨gax0, 0, none⟩) np0 np0) := fun W h => (B_x0.out.old h).cell (j := 1) rfl
  have q_x0_2 : ∀ W, Below w10.heap.size w10 W → W.cell? ⟨w6.heap.size, 2, none⟩ = some (.slice (some ⟨gbx0, 0, none⟩) nc0 nc0) := fun W h => (B_x0.out.old h).cell (j := 2) rfl
  have q_a0_0 : ∀ W, Below w10.heap.size w10 W → W.cell? ⟨w.heap.size, 0, none⟩ = some (.int .i64 sd0) := fun W h => (B_a0.out.old h).cell (j := 0) rfl
  have q_a0_1 : ∀ W, Below w10.heap.size w10 W → W.cell? ⟨w.heap.size, 1, none⟩ = some (.slice ao0 np0 cp0) := fun W h => (B_a0.out.old h).cell (j := 1) rfl
  have q_a0_2 : ∀ W, Below w10.heap.size w10 W → W.cell? ⟨w.heap.size, 2, none⟩ = some (.slice bo0 nc0 cq0) := fun W h => (B_a0.out.old h).cell (j := 2) rfl
  have QA : ∀ W, Below w10.heap.size w10 W → Hid (RdRow W (.slice ao0 np0 cp0) np0 ph0 ∧ RdV W (.slice bo0 nc0 cq0) nc0 6 (fun i j => ccell (C0 i) j)) := fun W h => ⟨H0.out.1.later (D_w.out.trans (h.mono (by omega))), H0.out.2.later (D_w.out.trans (h.mono (by omega)))⟩
  have QX : ∀ W, Below w10.heap.size w10 W → Hid (Me W (.slice (some ⟨gax0, 0, none⟩) np0 np0) (.slice (some ⟨gbx0, 0, none⟩) nc0 nc0) np0 ph0 nc0 C0) := fun W h => O_x0.out.rd.later h
  go_wp2_with fail
  go_region_held (fun W => Below w10.heap.size w10 W) (go_grown)
    (first | (go_at_call 32; refine Calls.mono (toMe_any (QA _ (by go_grown)).out.1 (QA _ (by go_grown)).out.2 (by omega) (by omega)) ?_; rintro e w11 ⟨gqa, gqb, rfl, hmo, hb1⟩; have hR1 : Below w10.heap.size w10 w11 := box_step (by go_grown) hb1 (Nat.le_refl _)) | (go_at_call 34; refine Calls.mono (eqMe_any (QX _ (by go_grown)).out hmo.rd (by omega) (by omega)) ?_; rintro e w12 ⟨rfl, hb2⟩; have hR2 : Below w10.heap.size w10 w12 := box_step hR1 hb2 (Nat.le_refl _)))
  have hbb : Below w10.heap.size w10 w12 := hR2
  clear hR1 hR2 hmo hb1 hb2 QA QX q_x0_0 q_x0_1 q_x0_2 q_a0_0 q_a0_1 q_a0_2
  have zw12 : w10.heap.size ≤ w12.heap.size := hbb.size
  replace B_a0 : Hid (Blk w12 w.heap.size #[.int .i64 sd0, .slice ao0 np0 cp0, .slice bo0 nc0 cq0] 44) := B_a0.out.old hbb
  replace B_S : Hid (Blk w12 w4.heap.size #[.int .i64 (ucd c np0 nc0 ph0 C0), .int .i64 (usd c np0 nc0 ph0 C0), .slice sa (unp c np0 nc0 ph0 C0) sc, .slice sb (unc c np0 nc0 ph0 C0) sq] 61) := B_S.out.old hbb
  replace B_x0 : Hid (Blk w12 w6.heap.size #[.int .i64 sd0, .slice (some ⟨gax0, 0, none⟩) np0 np0, .slice (some ⟨gbx0, 0, none⟩) nc0 nc0] 49) := B_x0.out.old hbb
  replace B_G : Hid (Blk w12 w8.heap.size #[.int .i64 (ucd c np0 nc0 ph0 C0), .int .i64 (usd c np0 nc0 ph0 C0), .slice ga (unp c np0 nc0 ph0 C0) gc, .slice gb (unc c np0 nc0 ph0 C0) gq] 61) := B_G.out.old hbb
  replace O_x0 : Hid (MeO w5.heap.size w6.heap.size w12 (.slice (some ⟨gax0, 0, none⟩) np0 np0) (.slice (some ⟨gbx0, 0, none⟩) nc0 nc0) np0 ph0 nc0 C0) := O_x0.out.keep (keep_below hbb (by omega))
  replace O_g : Hid (MeO w7.heap.size w8.heap.size w12 (.slice ga (unp c np0 nc0 ph0 C0) gc) (.slice gb (unc c np0 nc0 ph0 C0) gq) (unp c np0 nc0 ph0 C0) (pph np0 (fun _ => np0) (uA np0 nc0 ph0 C0)) (unc c np0 nc0 ph0 C0) (pC np0 (fun _ => np0) (uA np0 nc0 ph0 C0))) := O_g.out.keep (keep_below hbb (by omega))
  replace D_w : Hid (Below w.heap.size w w12) := D_w.out.trans (hbb.mono (by omega))
  replace D_w5 : Hid (Below w5.heap.size w5 w12) := D_w5.out.trans (hbb.mono (by omega))
  clear hbb
  have c_x0_0 := B_x0.out.cell (j := 0) rfl
  have c_x0_1 := B_x0.out.cell (j := 1) rfl
  have c_x0_2 := B_x0.out.cell (j := 2) rfl
  have l_x0 := B_x0.out.lt
  go_wp2_with fail
  refine (markMe_any 1 O_x0.out (by omega) (by omega) (by omega) (by omega) (by omega) (by omega)).mono ?_
  rintro e w13 ⟨rfl, _, hww⟩
  clear c_x0_0 c_x0_1 c_x0_2 l_x0
  have zw13 : w12.heap.size ≤ w13.heap.size := hww.below.size
  replace B_a0 : Hid (Blk w13 w.heap.size #[.int .i64 sd0, .slice ao0 np0 cp0, .slice bo0 nc0 cq0] 44) := B_a0.out.within hww (by omega)
  replace B_S : Hid (Blk w13 w4.heap.size #[.int .i64 (ucd c np0 nc0 ph0 C0), .int .i64 (usd c np0 nc0 ph0 C0), .slice sa (unp c np0 nc0 ph0 C0) sc, .slice sb (unc c np0 nc0 ph0 C0) sq] 61) := B_S.out.within hww (by omega)
  replace B_x0 : Hid (Blk w13 w6.heap.size #[.int .i64 sd0, .slice (some ⟨gax0, 0, none⟩) np0 np0, .slice (some ⟨gbx0, 0, none⟩) nc0 nc0] 49) := B_x0.out.within hww (by omega)
  replace B_G : Hid (Blk w13 w8.heap.size #[.int .i64 (ucd c np0 nc0 ph0 C0), .int .i64 (usd c np0 nc0 ph0 C0), .slice ga (unp c np0 nc0 ph0 C0) gc, .slice gb (unc c np0 nc0 ph0 C0) gq] 61) := B_G.out.within hww (by omega)
  replace O_g : Hid (MeO w7.heap.size w8.heap.size w13 (.slice ga (unp c np0 nc0 ph0 C0) gc) (.slice gb (unc c np0 nc0 ph0 C0) gq) (unp c np0 nc0 ph0 C0) (pph np0 (fun _ => np0) (uA np0 nc0 ph0 C0)) (unc c np0 nc0 ph0 C0) (pC np0 (fun _ => np0) (uA np0 nc0 ph0 C0))) := O_g.out.keep (keep_apart hww (by omega) (by omega))
  replace D_w : Hid (Below w.heap.size w w13) := D_w.out.trans (hww.below.mono (by omega))
  replace D_w5 : Hid (Below w5.heap.size w5 w13) := D_w5.out.trans (hww.below.mono (by omega))
  clear hww O_x0
  obtain ⟨k1, hk⟩ : ∃ k : Int, k = mK (1 + np0) nc0 := ⟨_, rfl⟩
  have hk1a : 0 ≤ k1 := by rw [hk]; unfold mK; omega
  have hk1b : k1 ≤ 1 + 8000000 := by rw [hk]; unfold mK; omega
  rw [← hk]
  clear hk
  have c_G_0 := B_G.out.cell (j := 0) rfl
  have c_G_1 := B_G.out.cell (j := 1) rfl
  have c_G_2 := B_G.out.cell (j := 2) rfl
  have c_G_3 := B_G.out.cell (j := 3) rfl
  have l_G := B_G.out.lt
  have c_S_0 := B_S.out.cell (j := 0) rfl
  have c_S_1 := B_S.out.cell (j := 1) rfl
  have c_S_2 := B_S.out.cell (j := 2) rfl
  have c_S_3 := B_S.out.cell (j := 3) rfl
  have l_S := B_S.out.lt
  go_wp2_with fail
  refine (eqMR_any O_g.out.rd (RS.out.later D_w5.out) (by omega) (by omega)).mono ?_
  rintro e w14 ⟨rfl, hbb⟩
  clear c_G_0 c_G_1 c_G_2 c_G_3 l_G c_S_0 c_S_1 c_S_2 c_S_3 l_S
  have zw14 : w13.heap.size ≤ w14.heap.size := hbb.size
  replace B_a0 : Hid (Blk w14 w.heap.size #[.int .i64 sd0, .slice ao0 np0 cp0, .slice bo0 nc0 cq0] 44) := B_a0.out.old hbb
  replace B_S : Hid (Blk w14 w4.heap.size #[.int .i64 (ucd c np0 nc0 ph0 C0), .int .i64 (usd c np0 nc0 ph0 C0), .slice sa (unp c np0 nc0 ph0 C0) sc, .slice sb (unc c np0 nc0 ph0 C0) sq] 61) := B_S.out.old hbb
  replace B_x0 : Hid (Blk w14 w6.heap.size #[.int .i64 sd0, .slice (some ⟨gax0, 0, none⟩) np0 np0, .slice (some ⟨gbx0, 0, none⟩) nc0 nc0] 49) := B_x0.out.old hbb
  replace B_G : Hid (Blk w14 w8.heap.size #[.int .i64 (ucd c np0 nc0 ph0 C0), .int .i64 (usd c np0 nc0 ph0 C0), .slice ga (unp c np0 nc0 ph0 C0) gc, .slice gb (unc c np0 nc0 ph0 C0) gq] 61) := B_G.out.old hbb
  replace O_g : Hid (MeO w7.heap.size w8.heap.size w14 (.slice ga (unp c np0 nc0 ph0 C0) gc) (.slice gb (unc c np0 nc0 ph0 C0) gq) (unp c np0 nc0 ph0 C0) (pph np0 (fun _ => np0) (uA np0 nc0 ph0 C0)) (unc c np0 nc0 ph0 C0) (pC np0 (fun _ => np0) (uA np0 nc0 ph0 C0))) := O_g.out.keep (keep_below hbb (by omega))
  replace D_w : Hid (Below w.heap.size w w14) := D_w.out.trans (hbb.mono (by omega))
  replace D_w5 : Hid (Below w5.heap.size w5 w14) := D_w5.out.trans (hbb.mono (by omega))
  clear hbb
  have c_G_0 := B_G.out.cell (j := 0) rfl
  have c_G_1 := B_G.out.cell (j := 1) rfl
  have c_G_2 := B_G.out.cell (j := 2) rfl
  have c_G_3 := B_G.out.cell (j := 3) rfl
  have l_G := B_G.out.lt
  go_wp2_with fail
  refine (markMR_any O_g.out (by omega) (by omega) (by omega) (by omega)).mono ?_
  rintro e w15 ⟨rfl, hmk, hww⟩
  clear c_G_0 c_G_1 c_G_2 c_G_3 l_G
  have zw15 : w14.heap.size ≤ w15.heap.size := hww.below.size
  replace B_a0 : Hid (Blk w15 w.heap.size #[.int .i64 sd0, .slice ao0 np0 cp0, .slice bo0 nc0 cq0] 44) := B_a0.out.within hww (by omega)
  replace B_S : Hid (Blk w15 w4.heap.size #[.int .i64 (ucd c np0 nc0 ph0 C0), .int .i64 (usd c np0 nc0 ph0 C0), .slice sa (unp c np0 nc0 ph0 C0) sc, .slice sb (unc c np0 nc0 ph0 C0) sq] 61) := B_S.out.within hww (by omega)
  replace B_x0 : Hid (Blk w15 w6.heap.size #[.int .i64 sd0, .slice (some ⟨gax0, 0, none⟩) np0 np0, .slice (some ⟨gbx0, 0, none⟩) nc0 nc0] 49) := B_x0.out.within hww (by omega)
  replace B_G : Hid (Blk w15 w8.heap.size #[.int .i64 (ucd c np0 nc0 ph0 C0), .int .i64 (usd c np0 nc0 ph0 C0), .slice ga (unp c np0 nc0 ph0 C0) gc, .slice gb (unc c np0 nc0 ph0 C0) gq] 61) := B_G.out.within hww (by omega)
  replace D_w : Hid (Below w.heap.size w w15) := D_w.out.trans (hww.below.mono (by omega))
  replace D_w5 : Hid (Below w5.heap.size w5 w15) := D_w5.out.trans (hww.below.mono (by omega))
  replace O_g : Hid (MkM w7.heap.size w8.heap.size w15 (.slice ga (unp c np0 nc0 ph0 C0) gc) (.slice gb (unc c np0 nc0 ph0 C0) gq) (unp c np0 nc0 ph0 C0) (unc c np0 nc0 ph0 C0) 1) := hmk
  clear hmk hww
  obtain ⟨r, hr⟩ : ∃ r : Int, r = mK (1 + (unp c np0 nc0 ph0 C0)) (unc c np0 nc0 ph0 C0) := ⟨_, rfl⟩
  have hr0 : 0 ≤ r := by rw [hr]; unfold mK; omega
  have HR : Hid (r = mK (1 + (unp c np0 nc0 ph0 C0)) (unc c np0 nc0 ph0 C0)) := hr
  rw [← hr]
  clear hr
  have c_G_0 := B_G.out.cell (j := 0) rfl
  have c_G_1 := B_G.out.cell (j := 1) rfl
  have c_G_2 := B_G.out.cell (j := 2) rfl
  have c_G_3 := B_G.out.cell (j := 3) rfl
  have l_G := B_G.out.lt
  go_wp2_with fail
  refine (heldMR_any O_g.out (by omega) (by omega) (by omega)).mono ?_
  rintro e w16 ⟨rfl, hbb⟩
  clear c_G_0 c_G_1 c_G_2 c_G_3 l_G
  have zw16 : w15.heap.size ≤ w16.heap.size := hbb.size
  replace B_a0 : Hid (Blk w16 w.heap.size #[.int .i64 sd0, .slice ao0 np0 cp0, .slice bo0 nc0 cq0] 44) := B_a0.out.old hbb
  replace B_S : Hid (Blk w16 w4.heap.size #[.int .i64 (ucd c np0 nc0 ph0 C0), .int .i64 (usd c np0 nc0 ph0 C0), .slice sa (unp c np0 nc0 ph0 C0) sc, .slice sb (unc c np0 nc0 ph0 C0) sq] 61) := B_S.out.old hbb
  replace B_x0 : Hid (Blk w16 w6.heap.size #[.int .i64 sd0, .slice (some ⟨gax0, 0, none⟩) np0 np0, .slice (some ⟨gbx0, 0, none⟩) nc0 nc0] 49) := B_x0.out.old hbb
  replace B_G : Hid (Blk w16 w8.heap.size #[.int .i64 (ucd c np0 nc0 ph0 C0), .int .i64 (usd c np0 nc0 ph0 C0), .slice ga (unp c np0 nc0 ph0 C0) gc, .slice gb (unc c np0 nc0 ph0 C0) gq] 61) := B_G.out.old hbb
  replace O_g : Hid (MkM w7.heap.size w8.heap.size w16 (.slice ga (unp c np0 nc0 ph0 C0) gc) (.slice gb (unc c np0 nc0 ph0 C0) gq) (unp c np0 nc0 ph0 C0) (unc c np0 nc0 ph0 C0) 1) := MeO.keep O_g.out (keep_below hbb (by omega))
  replace D_w : Hid (Below w.heap.size w w16) := D_w.out.trans (hbb.mono (by omega))
  replace D_w5 : Hid (Below w5.heap.size w5 w16) := D_w5.out.trans (hbb.mono (by omega))
  clear hbb
  rw [← HR.out]
  have c_a0_0 := B_a0.out.cell (j := 0) rfl
  have c_a0_1 := B_a0.out.cell (j := 1) rfl
  have c_a0_2 := B_a0.out.cell (j := 2) rfl
  have l_a0 := B_a0.out.lt
  go_wp2_with fail
  refine (toMe_any (H0.out.1.later D_w.out) (H0.out.2.later D_w.out) (by omega) (by omega)).mono ?_
  rintro e w17 ⟨gah0, gbh0, rfl, hmo, hbb⟩
  clear c_a0_0 c_a0_1 c_a0_2 l_a0
  have zw17 : w16.heap.size ≤ w17.heap.size := hbb.size
  replace B_a0 : Hid (Blk w17 w.heap.size #[.int .i64 sd0, .slice ao0 np0 cp0, .slice bo0 nc0 cq0] 44) := B_a0.out.old hbb
  replace B_S : Hid (Blk w17 w4.heap.size #[.int .i64 (ucd c np0 nc0 ph0 C0), .int .i64 (usd c np0 nc0 ph0 C0), .slice sa (unp c np0 nc0 ph0 C0) sc, .slice sb (unc c np0 nc0 ph0 C0) sq] 61) := B_S.out.old hbb
  replace B_x0 : Hid (Blk w17 w6.heap.size #[.int .i64 sd0, .slice (some ⟨gax0, 0, none⟩) np0 np0, .slice (some ⟨gbx0, 0, none⟩) nc0 nc0] 49) := B_x0.out.old hbb
  replace B_G : Hid (Blk w17 w8.heap.size #[.int .i64 (ucd c np0 nc0 ph0 C0), .int .i64 (usd c np0 nc0 ph0 C0), .slice ga (unp c np0 nc0 ph0 C0) gc, .slice gb (unc c np0 nc0 ph0 C0) gq] 61) := B_G.out.old hbb
  replace O_g : Hid (MkM w7.heap.size w8.heap.size w17 (.slice ga (unp c np0 nc0 ph0 C0) gc) (.slice gb (unc c np0 nc0 ph0 C0) gq) (unp c np0 nc0 ph0 C0) (unc c np0 nc0 ph0 C0) 1) := MeO.keep O_g.out (keep_below hbb (by omega))
  replace D_w : Hid (Below w.heap.size w w17) := D_w.out.trans (hbb.mono (by omega))
  replace D_w5 : Hid (Below w5.heap.size w5 w17) := D_w5.out.trans (hbb.mono (by omega))
  clear hbb
  have O_h0 : Hid (MeO w16.heap.size w17.heap.size w17 (.slice (some ⟨gah0, 0, none⟩) np0 np0) (.slice (some ⟨gbh0, 0, none⟩) nc0 nc0) np0 ph0 nc0 C0) := hmo
  clear hmo
  go_wp2_with fail
  refine (iUndo_any O_h0.out.rd (by omega) (by omega) HCC.out).mono ?_
  rintro e w18 ⟨h0, h1, rfl, hoo, hbb⟩
  obtain ⟨ha, hc, hb, hq, e0, e1⟩ := hoo.rd.shape
  subst e0
  subst e1
  have zw18 : w17.heap.size ≤ w18.heap.size := hbb.size
  replace B_a0 : Hid (Blk w18 w.heap.size #[.int .i64 sd0, .slice ao0 np0 cp0, .slice bo0 nc0 cq0] 44) := B_a0.out.old hbb
  replace B_S : Hid (Blk w18 w4.heap.size #[.int .i64 (ucd c np0 nc0 ph0 C0), .int .i64 (usd c np0 nc0 ph0 C0), .slice sa (unp c np0 nc0 ph0 C0) sc, .slice sb (unc c np0 nc0 ph0 C0) sq] 61) := B_S.out.old hbb
  replace B_x0 : Hid (Blk w18 w6.heap.size #[.int .i64 sd0, .slice (some ⟨gax0, 0, none⟩) np0 np0, .slice (some ⟨gbx0, 0, none⟩) nc0 nc0] 49) := B_x0.out.old hbb
  replace B_G : Hid (Blk w18 w8.heap.size #[.int .i64 (ucd c np0 nc0 ph0 C0), .int .i64 (usd c np0 nc0 ph0 C0), .slice ga (unp c np0 nc0 ph0 C0) gc, .slice gb (unc c np0 nc0 ph0 C0) gq] 61) := B_G.out.old hbb
  replace O_g : Hid (MkM w7.heap.size w8.heap.size w18 (.slice ga (unp c np0 nc0 ph0 C0) gc) (.slice gb (unc c np0 nc0 ph0 C0) gq) (unp c np0 nc0 ph0 C0) (unc c np0 nc0 ph0 C0) 1) := MeO.keep O_g.out (keep_below hbb (by omega))
  replace O_h0 : Hid (MeO w16.heap.size w17.heap.size w18 (.slice (some ⟨gah0, 0, none⟩) np0 np0) (.slice (some ⟨gbh0, 0, none⟩) nc0 nc0) np0 ph0 nc0 C0) := O_h0.out.keep (keep_below hbb (by omega))
  replace D_w : Hid (Below w.heap.size w w18) := D_w.out.trans (hbb.mono (by omega))
  replace D_w5 : Hid (Below w5.heap.size w5 w18) := D_w5.out.trans (hbb.mono (by omega))
  have O_h : Hid (MeO w17.heap.size w18.heap.size w18 (.slice ha (unp c np0 nc0 ph0 C0) hc) (.slice hb (unc c np0 nc0 ph0 C0) hq) (unp c np0 nc0 ph0 C0) (pph np0 (fun _ => np0) (uA np0 nc0 ph0 C0)) (unc c np0 nc0 ph0 C0) (pC np0 (fun _ => np0) (uA np0 nc0 ph0 C0))) := hoo
  clear hoo hbb
  have c_S_0 := B_S.out.cell (j := 0) rfl
  have c_S_1 := B_S.out.cell (j := 1) rfl
  have c_S_2 := B_S.out.cell (j := 2) rfl
  have c_S_3 := B_S.out.cell (j := 3) rfl
  have l_S := B_S.out.lt
  go_wp2_with fail
  obtain ⟨w19, hwd⟩ : ∃ W, W = w18.alloc (.cells #[.int .i64 (ucd c np0 nc0 ph0 C0), .int .i64 (usd c np0 nc0 ph0 C0), .slice ha (unp c np0 nc0 ph0 C0) hc, .slice hb (unc c np0 nc0 ph0 C0) hq] 61) := ⟨_, rfl⟩
  have NB : Hid (Blk w19 w18.heap.size #[.int .i64 (ucd c np0 nc0 ph0 C0), .int .i64 (usd c np0 nc0 ph0 C0), .slice ha (unp c np0 nc0 ph0 C0) hc, .slice hb (unc c np0 nc0 ph0 C0) hq] 61) := by rw [hwd]; exact Blk.new rfl
  have hbb : Below w18.heap.size w18 w19 := by rw [hwd]; exact (Below.refl _ _).alloc (Nat.le_refl _) _
  have yw19 : w18.heap.size + 1 ≤ w19.heap.size := by rw [hwd]; simp
  rw [← hwd]
  clear hwd
  clear c_S_0 c_S_1 c_S_2 c_S_3 l_S
  have zw19 : w18.heap.size ≤ w19.heap.size := hbb.size
  replace B_a0 : Hid (Blk w19 w.heap.size #[.int .i64 sd0, .slice ao0 np0 cp0, .slice bo0 nc0 cq0] 44) := B_a0.out.old hbb
  replace B_S : Hid (Blk w19 w4.heap.size #[.int .i64 (ucd c np0 nc0 ph0 C0), .int .i64 (usd c np0 nc0 ph0 C0), .slice sa (unp c np0 nc0 ph0 C0) sc, .slice sb (unc c np0 nc0 ph0 C0) sq] 61) := B_S.out.old hbb
  replace B_x0 : Hid (Blk w19 w6.heap.size #[.int .i64 sd0, .slice (some ⟨gax0, 0, none⟩) np0 np0, .slice (some ⟨gbx0, 0, none⟩) nc0 nc0] 49) := B_x0.out.old hbb
  replace B_G : Hid (Blk w19 w8.heap.size #[.int .i64 (ucd c np0 nc0 ph0 C0), .int .i64 (usd c np0 nc0 ph0 C0), .slice ga (unp c np0 nc0 ph0 C0) gc, .slice gb (unc c np0 nc0 ph0 C0) gq] 61) := B_G.out.old hbb
  replace O_g : Hid (MkM w7.heap.size w8.heap.size w19 (.slice ga (unp c np0 nc0 ph0 C0) gc) (.slice gb (unc c np0 nc0 ph0 C0) gq) (unp c np0 nc0 ph0 C0) (unc c np0 nc0 ph0 C0) 1) := MeO.keep O_g.out (keep_below hbb (by omega))
  replace O_h0 : Hid (MeO w16.heap.size w17.heap.size w19 (.slice (some ⟨gah0, 0, none⟩) np0 np0) (.slice (some ⟨gbh0, 0, none⟩) nc0 nc0) np0 ph0 nc0 C0) := O_h0.out.keep (keep_below hbb (by omega))
  replace O_h : Hid (MeO w17.heap.size w18.heap.size w19 (.slice ha (unp c np0 nc0 ph0 C0) hc) (.slice hb (unc c np0 nc0 ph0 C0) hq) (unp c np0 nc0 ph0 C0) (pph np0 (fun _ => np0) (uA np0 nc0 ph0 C0)) (unc c np0 nc0 ph0 C0) (pC np0 (fun _ => np0) (uA np0 nc0 ph0 C0))) := O_h.out.keep (keep_below hbb (by omega))
  replace D_w : Hid (Below w.heap.size w w19) := D_w.out.trans (hbb.mono (by omega))
  replace D_w5 : Hid (Below w5.heap.size w5 w19) := D_w5.out.trans (hbb.mono (by omega))
  clear hbb
  have B_H := NB
  clear NB
  refine (eqMR_any O_h.out.rd (RS.out.later D_w5.out) (by omega) (by omega)).mono ?_
  rintro e w20 ⟨rfl, hbb⟩
  have zw20 : w19.heap.size ≤ w20.heap.size := hbb.size
  replace B_a0 : Hid (Blk w20 w.heap.size #[.int .i64 sd0, .slice ao0 np0 cp0, .slice bo0 nc0 cq0] 44) := B_a0.out.old hbb
  replace B_S : Hid (Blk w20 w4.heap.size #[.int .i64 (ucd c np0 nc0 ph0 C0), .int .i64 (usd c np0 nc0 ph0 C0), .slice sa (unp c np0 nc0 ph0 C0) sc, .slice sb (unc c np0 nc0 ph0 C0) sq] 61) := B_S.out.old hbb
  replace B_x0 : Hid (Blk w20 w6.heap.size #[.int .i64 sd0, .slice (some ⟨gax0, 0, none⟩) np0 np0, .slice (some ⟨gbx0, 0, none⟩) nc0 nc0] 49) := B_x0.out.old hbb
  replace B_G : Hid (Blk w20 w8.heap.size #[.int .i64 (ucd c np0 nc0 ph0 C0), .int .i64 (usd c np0 nc0 ph0 C0), .slice ga (unp c np0 nc0 ph0 C0) gc, .slice gb (unc c np0 nc0 ph0 C0) gq] 61) := B_G.out.old hbb
  replace B_H : Hid (Blk w20 w18.heap.size #[.int .i64 (ucd c np0 nc0 ph0 C0), .int .i64 (usd c np0 nc0 ph0 C0), .slice ha (unp c np0 nc0 ph0 C0) hc, .slice hb (unc c np0 nc0 ph0 C0) hq] 61) := B_H.out.old hbb
  replace O_g : Hid (MkM w7.heap.size w8.heap.size w20 (.slice ga (unp c np0 nc0 ph0 C0) gc) (.slice gb (unc c np0 nc0 ph0 C0) gq) (unp c np0 nc0 ph0 C0) (unc c np0 nc0 ph0 C0) 1) := MeO.keep O_g.out (keep_below hbb (by omega))
  replace O_h0 : Hid (MeO w16.heap.size w17.heap.size w20 (.slice (some ⟨gah0, 0, none⟩) np0 np0) (.slice (some ⟨gbh0, 0, none⟩) nc0 nc0) np0 ph0 nc0 C0) := O_h0.out.keep (keep_below hbb (by omega))
  replace O_h : Hid (MeO w17.heap.size w18.heap.size w20 (.slice ha (unp c np0 nc0 ph0 C0) hc) (.slice hb (unc c np0 nc0 ph0 C0) hq) (unp c np0 nc0 ph0 C0) (pph np0 (fun _ => np0) (uA np0 nc0 ph0 C0)) (unc c np0 nc0 ph0 C0) (pC np0 (fun _ => np0) (uA np0 nc0 ph0 C0))) := O_h.out.keep (keep_below hbb (by omega))
  replace D_w : Hid (Below w.heap.size w w20) := D_w.out.trans (hbb.mono (by omega))
  replace D_w5 : Hid (Below w5.heap.size w5 w20) := D_w5.out.trans (hbb.mono (by omega))
  clear hbb
  have c_G_0 := B_G.out.cell (j := 0) rfl
  have c_G_1 := B_G.out.cell (j := 1) rfl
  have c_G_2 := B_G.out.cell (j := 2) rfl
  have c_G_3 := B_G.out.cell (j := 3) rfl
  have l_G := B_G.out.lt
  go_wp2_with fail
  refine (heldMR_any O_g.out (by omega) (by omega) (by omega)).mono ?_
  rintro e w21 ⟨rfl, hbb⟩
  clear c_G_0 c_G_1 c_G_2 c_G_3 l_G
  have zw21 : w20.heap.size ≤ w21.heap.size := hbb.size
  replace B_a0 : Hid (Blk w21 w.heap.size #[.int .i64 sd0, .slice ao0 np0 cp0, .slice bo0 nc0 cq0] 44) := B_a0.out.old hbb
  replace B_S : Hid (Blk w21 w4.heap.size #[.int .i64 (ucd c np0 nc0 ph0 C0), .int .i64 (usd c np0 nc0 ph0 C0), .slice sa (unp c np0 nc0 ph0 C0) sc, .slice sb (unc c np0 nc0 ph0 C0) sq] 61) := B_S.out.old hbb
  replace B_x0 : Hid (Blk w21 w6.heap.size #[.int .i64 sd0, .slice (some ⟨gax0, 0, none⟩) np0 np0, .slice (some ⟨gbx0, 0, none⟩) nc0 nc0] 49) := B_x0.out.old hbb
  replace B_G : Hid (Blk w21 w8.heap.size #[.int .i64 (ucd c np0 nc0 ph0 C0), .int .i64 (usd c np0 nc0 ph0 C0), .slice ga (unp c np0 nc0 ph0 C0) gc, .slice gb (unc c np0 nc0 ph0 C0) gq] 61) := B_G.out.old hbb
  replace B_H : Hid (Blk w21 w18.heap.size #[.int .i64 (ucd c np0 nc0 ph0 C0), .int .i64 (usd c np0 nc0 ph0 C0), .slice ha (unp c np0 nc0 ph0 C0) hc, .slice hb (unc c np0 nc0 ph0 C0) hq] 61) := B_H.out.old hbb
  replace O_g : Hid (MkM w7.heap.size w8.heap.size w21 (.slice ga (unp c np0 nc0 ph0 C0) gc) (.slice gb (unc c np0 nc0 ph0 C0) gq) (unp c np0 nc0 ph0 C0) (unc c np0 nc0 ph0 C0) 1) := MeO.keep O_g.out (keep_below hbb (by omega))
  replace O_h0 : Hid (MeO w16.heap.size w17.heap.size w21 (.slice (some ⟨gah0, 0, none⟩) np0 np0) (.slice (some ⟨gbh0, 0, none⟩) nc0 nc0) np0 ph0 nc0 C0) := O_h0.out.keep (keep_below hbb (by omega))
  replace O_h : Hid (MeO w17.heap.size w18.heap.size w21 (.slice ha (unp c np0 nc0 ph0 C0) hc) (.slice hb (unc c np0 nc0 ph0 C0) hq) (unp c np0 nc0 ph0 C0) (pph np0 (fun _ => np0) (uA np0 nc0 ph0 C0)) (unc c np0 nc0 ph0 C0) (pC np0 (fun _ => np0) (uA np0 nc0 ph0 C0))) := O_h.out.keep (keep_below hbb (by omega))
  replace D_w : Hid (Below w.heap.size w w21) := D_w.out.trans (hbb.mono (by omega))
  replace D_w5 : Hid (Below w5.heap.size w5 w21) := D_w5.out.trans (hbb.mono (by omega))
  clear hbb
  rw [← HR.out]
  go_wp2
  go_ret
  exact ⟨rfl, D_w.out⟩

set_option maxRecDepth 100000 in
theorem lifted (os : Os) (started : os.Started) (H : Type) (enc : TypeId × Value → H) :
    ReturnsInHanded {} Try.checked os 9 .any (Rows.fnExactUndoMeshSpec.pre6 enc Try.prog Try.f9 Rows.fnExactUndoMeshRow.domain false) (Rows.fnExactUndoMeshSpec.post enc Try.prog Try.f9 false true false false) := by
  refine returnsInHanded_of_change (C := Try.checked) own started (by kernel_rfl) Try.func9
    (ChangeSpec.witness6 (enc := enc) (C := Try.checked) false ⟨#[], #[.agg #[.int .i64 0, .slice none 0 0, .slice none 0 0]], []⟩ 8 (by kernel_rfl) (by kernel_rfl) (by kernel_rfl) (by kernel_rfl)) ?_
  intro W base args ds gs before hval0 hW hcnd _
  have hval : ∀ (j : Nat) t v, Try.f9.params[j]? = some t → args[j]? = some v → Value.okWide Try.prog W .any base t v := hval0
  have hW' := hW
  obtain ⟨p, q, hA0, hV, rfl, hfz, hnd⟩ := hW
  have hA : DataW.TrodAll enc Try.prog W 0 (fun _ => true) true Try.f9.params.toList args.toList ds p := hA0
  rw [Try.params9] at hA hval
  obtain ⟨v0, vs0, d0, ds0, p0, q0, hargs, rfl, rfl, h0, r0⟩ := trodAll_cons hA
  obtain ⟨rfl, rfl, rfl⟩ := trodAll_nil r0
  obtain rfl : args = #[v0] := by cases args; simp_all
  obtain ⟨rfl, rfl⟩ := trodVars_none hV
  have k0 := h0
  have lt0 : ∀ x ∈ p0, x.block < W.heap.size := by obtain ⟨m, hm⟩ := k0; exact DataW.trod_lt m _ _ _ hm
  obtain ⟨sd0, ao0, bo0, np0, cp0, nc0, cq0, ph0, C0, rfl, ra0, rb0, ba0, bb0⟩ := open_mesh (hval 0 44 v0 rfl rfl) h0
  clear hA0 hval0
  refine (walk ra0 rb0 ba0 bb0).mono fun e W' ⟨he, bel⟩ => ?_
  subst he
  exact ⟨_, rfl, _, _, _, [], _, [], hW', trodAll_mk1 (shut_bool Try.underlying4 _), (trodAll_cons_mk (Below.trod laidOut (by kernel_rfl) (of_decide_eq_true (by kernel_rfl)) k0 bel lt0) trodAll_mk0), rfl, bel.frame _, fun h => by cases h⟩

theorem over : Rows.fnExactUndoMeshRow.holds Try.pinned (OpenSpec.ofChange Rows.fnExactUndoMeshSpec) :=
  OpenClaim.holds_of_wide 9 Try.f9 rfl rfl rfl rfl rfl rfl rfl ⟨rfl, rfl, rfl, rfl, rfl⟩ rfl rfl rfl rfl rfl (by kernel_rfl) Try.func9 (by kernel_rfl)
    (of_decide_eq_true (by kernel_rfl)) (by unfold Func.isWrapper; first | (rw [if_pos (by decide +kernel)]; kernel_rfl) | (rw [if_neg (by decide +kernel)]; exact ⟨rfl, rfl⟩))
    (fun os started H enc _ => lifted os started H enc)
end Go.Proofs.Ytboppklcmdfphaa.LawUndoMesh
namespace Go.Proofs.Ytboppklcmdfphaa
theorem undoMesh_holds : Rows.FnExactUndoMeshSaid := LawUndoMesh.over
#print axioms undoMesh_holds
end Go.Proofs.Ytboppklcmdfphaa
