/- goDown: one round of a path, the program's. -/
import Derived.Test.YtelejihgechmgaaTk
namespace Go.Proofs.Ytelejihgechmgaa
open Go.RowKit
set_option linter.unusedVariables false
set_option linter.unusedSimpArgs false
set_option maxRecDepth 20000 in
set_option maxHeartbeats 12800000 in
theorem iDown_any {w0 w : World} {rb bx n d cap : Nat} {ao : Option Addr} {vp vm : Value} {bs cs : Nat → Nat} {L : Nat → Li} {pz : List Mt.Pnt} {s : Int} {t : Bool} (ht : t = decide (pz.length < (Mt.rnd L n d pz s d).length)) (h : Go3 w w0.heap.size rb bx vp vm bs cs d pz (mers L n d pz)) (hb0 : Below w0.heap.size w0 w) (hl : RdL w0 (.slice ao n cap) n L) (G : Mt.AGood L n d) (F : Mt.Fine L n d pz) (hs0 : 0 < s) (hs1 : s ≤ 1000) (hlen : pz.length ≤ 2900) :
    Calls Try.prog 76 #[.pointer (some ⟨bx, 0, none⟩), .slice ao n cap, .int .i64 s] w fun e w' => e = .returned (.bool t) ∧ (∃ vp' vm' bs' cs', Go3 w' w0.heap.size rb bx vp' vm' bs' cs' d (Mt.rnd L n d pz s d) (mers L n d (Mt.rnd L n d pz s d))) ∧ Below w0.heap.size w w' := by
  obtain ⟨gb, gc, rfl, hM⟩ := h.pth.mat F.ne
  have HC : Hid (t = decide (pz.length < (Mt.rnd L n d pz s d).length) ∧ Below w0.heap.size w0 w ∧ RdL w0 (.slice ao n cap) n L ∧ Mt.AGood L n d ∧ Mt.Fine L n d pz ∧ pz.length ≤ 2900 ∧ Go3 w w0.heap.size rb bx (.slice (some ⟨gb, 0, none⟩) pz.length gc) vm bs cs d pz (mers L n d pz)) := ⟨ht, hb0, hl, G, F, hlen, h⟩
  have k0 := h.box.cell (j := 1) (v := .slice (some ⟨gb, 0, none⟩) pz.length gc) rfl
  have k1 := hM.cellTop (i := 0) F.ne
  simp only [Lie.row] at k1
  have hneI : (0 : Int) < pz.length := by have := F.ne; omega
  have hlo : w0.heap.size ≤ w.heap.size := h.low
  have hd10 : (d : Int) ≤ 10 := by have := G.d10; omega
  have hwn : wrap64 (-s) = -s := by unfold wrap64; omega
  obtain ⟨b0, hb0'⟩ : ∃ b, b = bs 0 := ⟨_, rfl⟩
  obtain ⟨c0, hc0'⟩ : ∃ b, b = cs 0 := ⟨_, rfl⟩
  rw [← hb0', ← hc0'] at k1
  clear hb0' hc0' ht h hb0 hl G F hlen hM
  go_enter Try.func76, Try.ntmps76
  go_wp2_with fail
  clear k0 k1
  go_loopw [7, 16] (fun u7 u16 wr => ∃ (j : Nat) (pj : List Mt.Pnt) (vp vm : Value) (bs cs : Nat → Nat), j ≤ d ∧ u16 = .int .i64 j ∧ u7 = .bool (decide (pz.length < pj.length)) ∧ Hid (Go3 wr w0.heap.size rb bx vp vm bs cs d pj (mers L n d pj) ∧ Below w0.heap.size w wr ∧ Mt.Fine L n d pj ∧ pj = Mt.rnd L n d pz s j)) (fun _ u16 _ => d - (intOf u16).toNat)
  case atStart => exact ⟨0, pz, _, _, bs, cs, Nat.zero_le _, rfl, by simp, HC.out.2.2.2.2.2.2, Below.refl _ _, HC.out.2.2.2.2.1, rfl⟩
  case round =>
    obtain ⟨j, pj, vp, vm, bs, cs, hjd, rfl, rfl, HJ⟩ := hrel
    obtain ⟨mv, hmv⟩ : ∃ b, b = decide (pz.length < pj.length) := ⟨_, rfl⟩
    have HI : Hid (mv = decide (pz.length < pj.length)) := hmv
    have HLj : Hid (pz.length ≤ pj.length ∧ pj.length ≤ 3000) := by
      have h1 := Mt.rnd_step HC.out.2.2.2.2.1 s j
      rw [← HJ.out.2.2.2] at h1
      have h2 := HC.out.2.2.2.2.2.1
      exact ⟨h1.2.1, by omega⟩
    rw [← hmv]
    clear hmv
    by_cases hjn : j < d
    · have hjI : (j : Int) < d := by omega
      obtain ⟨t1, ht1⟩ : ∃ b, b = Mt.btr L n d (Mt.lst pj) (Mt.nb (Mt.lst pj) j s) := ⟨_, rfl⟩
      obtain ⟨t2, ht2⟩ : ∃ b, b = Mt.btr L n d (Mt.lst pj) (Mt.nb (Mt.lst pj) j (-s)) := ⟨_, rfl⟩
      have HT1 := iTake_any (ao := ao) (cap := cap) ht1 HJ.out.1 (HC.out.2.1.trans HJ.out.2.1) HC.out.2.2.1 HC.out.2.2.2.1 HJ.out.2.2.1 hjn ⟨by omega, by omega⟩ HLj.out.2
      have HE : Hid (t1 = Mt.btr L n d (Mt.lst pj) (Mt.nb (Mt.lst pj) j s) ∧ t2 = Mt.btr L n d (Mt.lst pj) (Mt.nb (Mt.lst pj) j (-s))) := ⟨ht1, ht2⟩
      obtain ⟨Y1, hY1⟩ : ∃ y, y = Mt.nb (Mt.lst pj) j s := ⟨_, rfl⟩
      obtain ⟨Y2, hY2⟩ : ∃ y, y = Mt.nb (Mt.lst pj) j (-s) := ⟨_, rfl⟩
      have HY : Hid (Y1 = Mt.nb (Mt.lst pj) j s ∧ Y2 = Mt.nb (Mt.lst pj) j (-s)) := ⟨hY1, hY2⟩
      rw [← hY1] at HT1
      clear ht1 ht2 hY1 hY2
      cases t1 with
      | true =>
        have HN : Hid (Mt.rnd L n d pz s (j + 1) = pj ++ [Y1]) := by
          show Mt.tk2 L n d (Mt.rnd L n d pz s j) j s = _
          rw [← HJ.out.2.2.2]; unfold Mt.tk2; rw [if_pos HE.out.1.symm, HY.out.1]
        have HF : Hid (Mt.tcode L n d Y1 = 0) := by rw [HY.out.1]; exact (Mt.btr_iff.1 HE.out.1.symm).1
        go_wp2_with (first | (go_at_call 100; refine HT1.mono ?_; rintro e w1 ⟨rfl, ⟨vp1, vm1, bs1, cs1, hg1⟩, hb1⟩))
        go_roundw
        case rel => exact ⟨j + 1, pj ++ [Y1], vp1, vm1, bs1, cs1, by omega, by simp, by have := HLj.out.1; simp; omega, by rw [tka_t] at hg1; exact hg1, HJ.out.2.1.trans hb1, HJ.out.2.2.1.snoc HF.out, HN.out.symm⟩
        case measure => simp [intOf]; omega
      | false =>
        have HT2 : ∀ W vp vm bs cs, Go3 W w0.heap.size rb bx vp vm bs cs d pj (mers L n d pj) → Below w0.heap.size w W → Calls Try.prog 100 #[.pointer (some ⟨bx, 0, none⟩), .slice ao n cap, .int .i64 (j : Int), .int .i64 (-s)] W fun e w' => e = .returned (.bool t2) ∧ (∃ vp' vm' bs' cs', Go3 w' w0.heap.size rb bx vp' vm' bs' cs' d (tka t2 pj Y2) (mers L n d (tka t2 pj Y2))) ∧ Below w0.heap.size W w' := fun W vp vm bs cs hg hb => by
          rw [HY.out.2]
          exact iTake_any HE.out.2 hg (HC.out.2.1.trans hb) HC.out.2.2.1 HC.out.2.2.2.1 HJ.out.2.2.1 hjn ⟨by omega, by omega⟩ HLj.out.2
        have HN : Hid (Mt.rnd L n d pz s (j + 1) = tka t2 pj Y2) := by
          show Mt.tk2 L n d (Mt.rnd L n d pz s j) j s = _
          have e1 : ¬ Mt.btr L n d (Mt.lst pj) (Mt.nb (Mt.lst pj) j s) = true := by rw [← HE.out.1]; decide
          rw [← HJ.out.2.2.2]; unfold Mt.tk2; rw [if_neg e1]; unfold Mt.tk tka; rw [← HE.out.2, HY.out.2]
        have HF : Hid (Mt.Fine L n d (tka t2 pj Y2)) := by
          rw [← HN.out]; exact (Mt.rnd_step HC.out.2.2.2.2.1 s (j + 1)).1
        cases t2 with
        | true =>
          go_wp2_with (first | (go_at_call 100; refine HT1.mono ?_; rintro e w1 ⟨rfl, ⟨vp1, vm1, bs1, cs1, hg1⟩, hb1⟩; clear HT1; rw [tka_f] at hg1) | (go_at_call 100; refine (HT2 _ _ _ _ _ hg1 (HJ.out.2.1.trans hb1)).mono ?_; rintro e w2 ⟨rfl, ⟨vp2, vm2, bs2, cs2, hg2⟩, hb2⟩))
          go_roundw
          case rel => exact ⟨j + 1, pj ++ [Y2], vp2, vm2, bs2, cs2, by omega, by simp, by have := HLj.out.1; simp; omega, by rw [tka_t] at hg2; exact hg2, (HJ.out.2.1.trans hb1).trans hb2, by rw [← tka_t]; exact HF.out, by rw [HN.out, tka_t]⟩
          case measure => simp [intOf]; omega
        | false =>
          go_wp2_with (first | (go_at_call 100; refine HT1.mono ?_; rintro e w1 ⟨rfl, ⟨vp1, vm1, bs1, cs1, hg1⟩, hb1⟩; clear HT1; rw [tka_f] at hg1) | (go_at_call 100; refine (HT2 _ _ _ _ _ hg1 (HJ.out.2.1.trans hb1)).mono ?_; rintro e w2 ⟨rfl, ⟨vp2, vm2, bs2, cs2, hg2⟩, hb2⟩))
          go_roundw
          case rel => exact ⟨j + 1, pj, vp2, vm2, bs2, cs2, by omega, by simp, by rw [HI.out], by rw [tka_f] at hg2; exact hg2, (HJ.out.2.1.trans hb1).trans hb2, by rw [← tka_f pj Y2]; exact HF.out, by rw [HN.out, tka_f]⟩
          case measure => simp [intOf]; omega
    · obtain rfl : j = d := by omega
      have HR : Hid (t = mv ∧ pj = Mt.rnd L n j pz s j) := ⟨by rw [HC.out.1, ← HJ.out.2.2.2, HI.out], HJ.out.2.2.2⟩
      go_wp2
      go_ret
      exact ⟨by rw [HR.out.1]; first | done | rfl, ⟨vp, vm, bs, cs, by rw [← HR.out.2]; exact HJ.out.1⟩, HJ.out.2.1⟩
end Go.Proofs.Ytelejihgechmgaa
