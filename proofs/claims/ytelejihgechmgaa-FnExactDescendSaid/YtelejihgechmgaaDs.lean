/- Descend's specification: a contract. -/
import Derived.Test.YtelejihgechmgaaOg
import Derived.Test.YtelejihgechmgaaMm
namespace Go.Proofs.Ytelejihgechmgaa
open Go.RowKit
set_option linter.unusedVariables false
set_option linter.unusedSimpArgs false
set_option maxRecDepth 20000 in
set_option maxHeartbeats 12800000 in
theorem sDesc_any {w : World} {ao qo : Option Addr} {n d cap qc : Nat} {L : Nat → Li} {x : Mt.Pnt} {s r c : Int} {ps : List Mt.Pnt} (hc : c = Mt.dcode L n d x s r) (hps : ps = Mt.dpath L n d x s r) (h : RdL w (.slice ao n cap) n L) (hp : RdRow w (.slice qo d qc) d x) (hn : n ≤ 1048576) (hd : d ≤ 1048576) :
    Calls Try.prog 37 #[.slice ao n cap, .slice qo d qc, .int .i64 s, .int .i64 r] w fun e w' => ∃ pv mv, e = .returned (.agg #[.int .i64 c, pv, mv]) ∧ OwD w.heap.size w'.heap.size w' c pv mv d ps (mers L n d ps) ∧ Below w.heap.size w w' := by
  have H : ∀ W, Below w.heap.size w W → Hid (RdL W (.slice ao n cap) n L ∧ RdRow W (.slice qo d qc) d x) := fun W hb => ⟨h.later hb, hp.later hb⟩
  have HC : Hid (c = Mt.dcode L n d x s r ∧ ps = Mt.dpath L n d x s r) := ⟨hc, hps⟩
  obtain ⟨q, hq⟩ : ∃ q, q = Mt.tcode L n d x := ⟨_, rfl⟩
  obtain ⟨m, hm⟩ : ∃ m, m = Mt.merit L n d x := ⟨_, rfl⟩
  obtain ⟨X, hX⟩ : ∃ X, X = w.alloc (.cells #[.int .i64 0, .slice none 0 0, .slice none 0 0] 55) := ⟨_, rfl⟩
  have BX : Hid (Blk X w.heap.size #[.int .i64 0, .slice none 0 0, .slice none 0 0] 55 ∧ Below w.heap.size w X) := by rw [hX]; exact ⟨Blk.new rfl, (Below.refl _ _).alloc (Nat.le_refl _) _⟩
  have hX1 : w.heap.size < X.heap.size := BX.out.1.lt
  have HM := sMerit_any hq hm (H X BX.out.2).out.1 (H X BX.out.2).out.2 hn hd
  have HQ : Hid (q = Mt.tcode L n d x ∧ m = Mt.merit L n d x) := ⟨hq, hm⟩
  have HN : Hid (n ≤ 1048576 ∧ d ≤ 1048576) := ⟨hn, hd⟩
  clear hc hps hq hm h hp hn hd
  go_enter Try.func37, Try.ntmps37
  go_wp2_with fail
  rw [← hX]
  clear hX
  go_upto_region 2 with (first | (go_at_call 33; refine HM.mono ?_; rintro e w1 ⟨rfl, hb1⟩))
  obtain ⟨W1, hW1⟩ : ∃ W, W = w1.alloc (.cells #[.int .i64 q, .int .i64 m] 36) := ⟨_, rfl⟩
  have BM : Hid (Blk W1 w1.heap.size #[.int .i64 q, .int .i64 m] 36) := by rw [hW1]; exact Blk.new rfl
  have HB1 : Hid (Below X.heap.size X W1 ∧ Blk W1 w.heap.size #[.int .i64 0, .slice none 0 0, .slice none 0 0] 55 ∧ Below w.heap.size w W1) := by
    have hb : Below X.heap.size X W1 := by rw [hW1]; exact hb1.alloc hb1.size _
    exact ⟨hb, BX.out.1.old hb, BX.out.2.trans (hb.mono (Nat.le_of_lt hX1))⟩
  have hne1 : w.heap.size ≠ w1.heap.size := by have := hb1.size; omega
  rw [← hW1]
  clear hW1 hb1 HM
  have r0 := HB1.out.2.1.cell (j := 0) (v := .int .i64 0) rfl
  have r1 := HB1.out.2.1.cell (j := 1) (v := .slice none 0 0) rfl
  have r2 := HB1.out.2.1.cell (j := 2) (v := .slice none 0 0) rfl
  have rf := HB1.out.2.1.frozen
  have m0 := BM.out.cell (j := 0) (v := .int .i64 q) rfl
  have m1 := BM.out.cell (j := 1) (v := .int .i64 m) rfl
  have bad : ∀ z : Int, z ≠ 0 → c = z → Hid (OwD w.heap.size (((W1.setCell ⟨w.heap.size, 0, none⟩ (.int .i64 z)).setCell ⟨w.heap.size, 1, none⟩ (.slice none 0 0)).setCell ⟨w.heap.size, 2, none⟩ (.slice none 0 0)).heap.size (((W1.setCell ⟨w.heap.size, 0, none⟩ (.int .i64 z)).setCell ⟨w.heap.size, 1, none⟩ (.slice none 0 0)).setCell ⟨w.heap.size, 2, none⟩ (.slice none 0 0)) c (.slice none 0 0) (.slice none 0 0) d ps (mers L n d ps) ∧ Below w.heap.size w (((W1.setCell ⟨w.heap.size, 0, none⟩ (.int .i64 z)).setCell ⟨w.heap.size, 1, none⟩ (.slice none 0 0)).setCell ⟨w.heap.size, 2, none⟩ (.slice none 0 0)) ∧ Blk (((W1.setCell ⟨w.heap.size, 0, none⟩ (.int .i64 z)).setCell ⟨w.heap.size, 1, none⟩ (.slice none 0 0)).setCell ⟨w.heap.size, 2, none⟩ (.slice none 0 0)) w.heap.size #[.int .i64 z, .slice none 0 0, .slice none 0 0] 55) := fun z hz e =>
    ⟨Or.inl ⟨by rw [e]; exact hz, rfl, rfl⟩, ((HB1.out.2.2.setCell (Nat.le_refl _) _).setCell (Nat.le_refl _) _).setCell (Nat.le_refl _) _, ((HB1.out.2.1.set 0 _ rfl).set 1 _ rfl).set 2 _ rfl⟩
  by_cases hz : q = 0
  case neg =>
    have hcz : Hid (c = q) := by show c = q; rw [HC.out.1, Mt.dcode, ← HQ.out.1, if_neg hz]
    have HB2 := bad q hz hcz.out
    have hqb : (q != 0) = true := by simpa using hz
    clear bad hz
    go_wp2_with fail
    have s0 := HB2.out.2.2.cell (j := 0) (v := .int .i64 q) rfl
    have s1 := HB2.out.2.2.cell (j := 1) (v := .slice none 0 0) rfl
    have s2 := HB2.out.2.2.cell (j := 2) (v := .slice none 0 0) rfl
    refine bodyPost_ret (v := .agg #[.int .i64 q, .slice none 0 0, .slice none 0 0]) ?_ rfl ⟨_, _, by rw [hcz.out], HB2.out.1, HB2.out.2.1⟩
    simp [results, Try.results37, go_sem, s0, s1, s2]
  case pos =>
  subst hz
  by_cases hin : (Mt.inR s 1 1000 && Mt.inR r 0 200) = true
  case neg =>
    have hcz : Hid (c = 3) := by show c = 3; rw [HC.out.1, Mt.dcode, ← HQ.out.1, if_pos rfl, if_neg hin]
    have HB2 := bad 3 (by decide) hcz.out
    have hor : Mt.inR s 1 1000 = false ∨ (Mt.inR s 1 1000 = true ∧ Mt.inR r 0 200 = false) := by
      cases h1 : Mt.inR s 1 1000
      · exact Or.inl rfl
      · rw [h1] at hin; simp at hin; exact Or.inr ⟨rfl, hin⟩
    clear bad hin
    rcases hor with e1 | ⟨e1, e2⟩
    · go_wp2_with (first | (go_at_call 55; refine (sIn_any _ _ _ _).mono ?_; rintro e w5 ⟨rfl, rfl⟩; rw [e1]))
      have s0 := HB2.out.2.2.cell (j := 0) (v := .int .i64 3) rfl
      have s1 := HB2.out.2.2.cell (j := 1) (v := .slice none 0 0) rfl
      have s2 := HB2.out.2.2.cell (j := 2) (v := .slice none 0 0) rfl
      refine bodyPost_ret (v := .agg #[.int .i64 3, .slice none 0 0, .slice none 0 0]) ?_ rfl ⟨_, _, by rw [hcz.out], HB2.out.1, HB2.out.2.1⟩
      simp [results, Try.results37, go_sem, s0, s1, s2]
    · go_wp2_with (first | (go_at_call 55; refine (sIn_any _ _ _ _).mono ?_; rintro e w5 ⟨rfl, rfl⟩; first | rw [e1] | rw [e2]))
      have s0 := HB2.out.2.2.cell (j := 0) (v := .int .i64 3) rfl
      have s1 := HB2.out.2.2.cell (j := 1) (v := .slice none 0 0) rfl
      have s2 := HB2.out.2.2.cell (j := 2) (v := .slice none 0 0) rfl
      refine bodyPost_ret (v := .agg #[.int .i64 3, .slice none 0 0, .slice none 0 0]) ?_ rfl ⟨_, _, by rw [hcz.out], HB2.out.1, HB2.out.2.1⟩
      simp [results, Try.results37, go_sem, s0, s1, s2]
  case pos =>
  have hin2 : Mt.inR s 1 1000 = true ∧ Mt.inR r 0 200 = true := by simpa using hin
  obtain ⟨e1, e2⟩ := hin2
  obtain ⟨hs0, hs1⟩ := Mt.inR_iff.1 e1
  obtain ⟨hr0, hr1⟩ := Mt.inR_iff.1 e2
  have hcz : Hid (c = 0) := by show c = 0; rw [HC.out.1, Mt.dcode, ← HQ.out.1, if_pos rfl, if_pos hin]
  have hAG : Hid (Mt.AGood L n d) := by
    have e := HQ.out.1.symm
    unfold Mt.tcode at e
    split at e
    · rename_i e3; exact Mt.agood e3
    · contradiction
  have hd1 : 0 < d := hAG.out.d1
  have hd10 : d ≤ 10 := hAG.out.d10
  have hdI : (d : Int) ≤ 10 := by omega
  clear bad hin r0 r1 r2 rf
  have hdn : d ≤ 1048576 := HN.out.2
  go_upto_region 6 with (first | (go_at_call 55; refine (sIn_any _ _ _ _).mono ?_; rintro e w5 ⟨rfl, rfl⟩; first | rw [e1] | rw [e2]))
  go_upto_region 8 with (first | (at_builtin; refine pushC rfl (.tmp 37) (.tmp 38) rfl W1 (by simp [Act.eval]) qo d qc x (by simp [Act.eval]) (H W1 HB1.out.2.2).out.2 hd1 hdn ?_; intro g cap0 w2 h1 h2 h3 h4; have HG : Hid (W1.heap.size ≤ g ∧ g < w2.heap.size ∧ Seg w2 g 2 0 d (fun j => .int .i64 (x j)) ∧ Below W1.heap.size W1 w2) := ⟨h1, h2, h3, h4⟩; have m2 := kold h4 m1; clear h1 h2 h3 h4 m0 m1))
  clear e1 e2
  go_upto_region 9 with fail
  have HG3 : Hid (Go3 (Wst w2 g d cap0 m) w.heap.size w.heap.size (w2.heap.size + 1 + 1) (.slice (some ⟨w2.heap.size, 0, none⟩) 1 1) (.slice (some ⟨w2.heap.size + 1, 0, none⟩) 1 1) (fun _ => g) (fun _ => cap0) d [x] (mers L n d [x]) ∧ Below w.heap.size w (Wst w2 g d cap0 m)) := by
    have h := Go3.start (cp := cap0) (m := m) HB1.out.2.1 (Nat.le_refl _) HG.out.2.2.2 HG.out.1 HG.out.2.1 HG.out.2.2.1
    have e : mers L n d [x] = [m] := by rw [HQ.out.2]; rfl
    rw [e]
    exact ⟨h.1, HB1.out.2.2.trans h.2⟩
  obtain ⟨W3, hW3⟩ : ∃ W, W = Wst w2 g d cap0 m := ⟨_, rfl⟩
  rw [← hW3] at HG3
  have hW3' := hW3
  unfold Wst at hW3'
  rw [← hW3']
  obtain ⟨bx, hbx⟩ : ∃ b, b = w2.heap.size + 1 + 1 := ⟨_, rfl⟩
  rw [← hbx] at HG3 ⊢
  have HPR : Hid (ps = Mt.run L n d r.toNat [x] s ∧ Mt.Fine L n d [x]) := ⟨HC.out.2, ⟨by simp, fun p hp => by simp at hp; rw [hp]; exact HQ.out.1.symm⟩⟩
  have HMX : Hid (m = Mt.merit L n d (Mt.lst [x])) := HQ.out.2
  clear hW3 hW3' hbx m2
  go_wp2_with fail
  go_loopw [2, 10, 11, 13] (fun u2 u10 u11 u13 wr => ∃ (k : Nat) (s' : Int) (pz : List Mt.Pnt) (vp vm : Value) (bs cs : Nat → Nat), (k : Int) ≤ r ∧ 0 ≤ s' ∧ s' ≤ 1000 ∧ u13 = .int .i64 k ∧ u2 = .int .i64 s' ∧ u10 = .slice (some ⟨bs (pz.length - 1), 0, none⟩) d (cs (pz.length - 1)) ∧ u11 = .int .i64 (Mt.merit L n d (Mt.lst pz)) ∧ Hid (Go3 wr w.heap.size w.heap.size bx vp vm bs cs d pz (mers L n d pz) ∧ Below w.heap.size w wr ∧ Mt.Fine L n d pz ∧ pz.length ≤ 1 + k * d ∧ ps = Mt.run L n d (r.toNat - k) pz s')) (fun _ _ _ u13 _ => r.toNat - (intOf u13).toNat)
  case atStart => exact ⟨0, s, [x], _, _, _, _, hr0, by omega, hs1, rfl, rfl, rfl, by rw [HMX.out], HG3.out.1, HG3.out.2, HPR.out.2, by simp, HPR.out.1⟩
  case round =>
    obtain ⟨k, s', pz, vp, vm, bs, cs, hkr, hs0', hs1', rfl, rfl, rfl, rfl, HS⟩ := hrel
    clear HG3 HG HPR HMX
    obtain ⟨M, hM⟩ : ∃ M, M = Mt.merit L n d (Mt.lst pz) := ⟨_, rfl⟩
    obtain ⟨b0, hb0⟩ : ∃ b, b = bs (pz.length - 1) := ⟨_, rfl⟩
    obtain ⟨c0, hc0⟩ : ∃ b, b = cs (pz.length - 1) := ⟨_, rfl⟩
    have HI : Hid (M = Mt.merit L n d (Mt.lst pz) ∧ b0 = bs (pz.length - 1) ∧ c0 = cs (pz.length - 1)) := ⟨hM, hb0, hc0⟩
    rw [← hM, ← hb0, ← hc0]
    clear hM hb0 hc0
    by_cases hgo : (k : Int) < r ∧ 0 < s'
    case neg =>
      have hps : Hid (ps = pz) := by
        show ps = pz
        rw [HS.out.2.2.2.2]
        by_cases q : 0 < s'
        · have : r.toNat - k = 0 := by omega
          rw [this]; rfl
        · cases r.toNat - k with
          | zero => rfl
          | succ t => unfold Mt.run; rw [if_neg q]
      obtain ⟨xp, yp, rfl⟩ := owns_shape HS.out.1.pth.top
      obtain ⟨xm, ym, rfl⟩ := owns_shape HS.out.1.pth.mer
      have a0 := HS.out.1.box.cell (j := 0) (v := .int .i64 0) rfl
      have a1 := HS.out.1.box.cell (j := 1) (v := .slice xp pz.length yp) rfl
      have a2 := HS.out.1.box.cell (j := 2) (v := (.slice xm (mers L n d pz).length ym)) rfl
      have r0 := HS.out.1.res.cell (j := 0) (v := .int .i64 0) rfl
      have r1 := HS.out.1.res.cell (j := 1) (v := .slice none 0 0) rfl
      have r2 := HS.out.1.res.cell (j := 2) (v := .slice none 0 0) rfl
      have rf := HS.out.1.res.frozen
      have hrb := HS.out.1.ne
      have HB2 : Hid (OwD w.heap.size (((wr.setCell ⟨w.heap.size, 0, none⟩ (.int .i64 0)).setCell ⟨w.heap.size, 1, none⟩ (.slice xp pz.length yp)).setCell ⟨w.heap.size, 2, none⟩ (.slice xm (mers L n d pz).length ym)).heap.size (((wr.setCell ⟨w.heap.size, 0, none⟩ (.int .i64 0)).setCell ⟨w.heap.size, 1, none⟩ (.slice xp pz.length yp)).setCell ⟨w.heap.size, 2, none⟩ (.slice xm (mers L n d pz).length ym)) c (.slice xp pz.length yp) (.slice xm (mers L n d pz).length ym) d ps (mers L n d ps) ∧ Below w.heap.size w (((wr.setCell ⟨w.heap.size, 0, none⟩ (.int .i64 0)).setCell ⟨w.heap.size, 1, none⟩ (.slice xp pz.length yp)).setCell ⟨w.heap.size, 2, none⟩ (.slice xm (mers L n d pz).length ym)) ∧ Blk (((wr.setCell ⟨w.heap.size, 0, none⟩ (.int .i64 0)).setCell ⟨w.heap.size, 1, none⟩ (.slice xp pz.length yp)).setCell ⟨w.heap.size, 2, none⟩ (.slice xm (mers L n d pz).length ym)) w.heap.size #[.int .i64 0, (.slice xp pz.length yp), (.slice xm (mers L n d pz).length ym)] 55) := by
        have b1 := HS.out.1.res.set 0 (.int .i64 0) rfl
        have b2 := b1.set 1 (.slice xp pz.length yp) rfl
        have b3 := b2.set 2 (.slice xm (mers L n d pz).length ym) rfl
        rw [hcz.out, hps.out]
        have hF := HS.out.2.2.1.ne
        exact ⟨OwD.of (((HS.out.1.pth.box HS.out.1.res (by decide)).box b1 (by decide)).box b2 (by decide)) hF (by rw [mers_len]; exact hF), ((HS.out.2.1.setCell (Nat.le_refl _) _).setCell (Nat.le_refl _) _).setCell (Nat.le_refl _) _, b3⟩
      have hor : ¬ ((k : Int) < r) ∨ ((k : Int) < r ∧ ¬ (0 < s')) := by omega
      clear hgo H
      rcases hor with q | ⟨q, q2⟩
      · go_wp2_with fail
        have s0 := HB2.out.2.2.cell (j := 0) (v := .int .i64 0) rfl
        have s1 := HB2.out.2.2.cell (j := 1) (v := .slice xp pz.length yp) rfl
        have s2 := HB2.out.2.2.cell (j := 2) (v := .slice xm (mers L n d pz).length ym) rfl
        refine bodyPost_ret (v := .agg #[.int .i64 0, .slice xp pz.length yp, .slice xm (mers L n d pz).length ym]) ?_ rfl ⟨_, _, by rw [hcz.out], HB2.out.1, HB2.out.2.1⟩
        simp [results, Try.results37, go_sem, s0, s1, s2]
      · go_wp2_with fail
        have s0 := HB2.out.2.2.cell (j := 0) (v := .int .i64 0) rfl
        have s1 := HB2.out.2.2.cell (j := 1) (v := .slice xp pz.length yp) rfl
        have s2 := HB2.out.2.2.cell (j := 2) (v := .slice xm (mers L n d pz).length ym) rfl
        refine bodyPost_ret (v := .agg #[.int .i64 0, .slice xp pz.length yp, .slice xm (mers L n d pz).length ym]) ?_ rfl ⟨_, _, by rw [hcz.out], HB2.out.1, HB2.out.2.1⟩
        simp [results, Try.results37, go_sem, s0, s1, s2]
    case pos =>
    obtain ⟨hk1, hs2⟩ := hgo
    have HLz : Hid (pz.length ≤ 2001) := by
      have h1 := HS.out.2.2.2.1
      have h2 : k * d ≤ 200 * 10 := Nat.mul_le_mul (by omega) hd10
      show pz.length ≤ 2001
      omega
    go_upto_region 13 with fail
    obtain ⟨wo, rfl⟩ : ∃ v, v = wr := ⟨_, rfl⟩
    go_wp2_with fail
    go_loopw [10, 11, 14, 15] (fun u10 u11 u14 u15 wr => ∃ (j : Nat) (pj : List Mt.Pnt) (vp vm : Value) (bs cs : Nat → Nat), j ≤ d ∧ u15 = .int .i64 j ∧ u14 = .bool (decide (pz.length < pj.length)) ∧ u10 = .slice (some ⟨bs (pj.length - 1), 0, none⟩) d (cs (pj.length - 1)) ∧ u11 = .int .i64 (Mt.merit L n d (Mt.lst pj)) ∧ Hid (Go3 wr w.heap.size w.heap.size bx vp vm bs cs d pj (mers L n d pj) ∧ Below w.heap.size w wr ∧ Mt.Fine L n d pj ∧ pj = Mt.rnd L n d pz s' j)) (fun _ _ _ u15 _ => d - (intOf u15).toNat)
    case atStart => exact ⟨0, pz, vp, vm, bs, cs, Nat.zero_le _, rfl, by simp, by rw [HI.out.2.1, HI.out.2.2], by rw [HI.out.1], HS.out.1, HS.out.2.1, HS.out.2.2.1, rfl⟩
    case round =>
      obtain ⟨j, pj, vp, vm, bs, cs, hjd, rfl, rfl, rfl, rfl, HJ⟩ := hrel
      clear HI
      obtain ⟨M, hM⟩ : ∃ M, M = Mt.merit L n d (Mt.lst pj) := ⟨_, rfl⟩
      obtain ⟨b0, hb0⟩ : ∃ b, b = bs (pj.length - 1) := ⟨_, rfl⟩
      obtain ⟨c0, hc0⟩ : ∃ b, b = cs (pj.length - 1) := ⟨_, rfl⟩
      obtain ⟨mv, hmv⟩ : ∃ b, b = decide (pz.length < pj.length) := ⟨_, rfl⟩
      have HI : Hid (M = Mt.merit L n d (Mt.lst pj) ∧ b0 = bs (pj.length - 1) ∧ c0 = cs (pj.length - 1) ∧ mv = decide (pz.length < pj.length)) := ⟨hM, hb0, hc0, hmv⟩
      have HLj : Hid (pz.length ≤ pj.length ∧ pj.length ≤ 3000) := by
        have h1 := Mt.rnd_step HS.out.2.2.1 s' j
        rw [← HJ.out.2.2.2] at h1
        have h2 := HLz.out
        exact ⟨h1.2.1, by omega⟩
      rw [← hM, ← hb0, ← hc0, ← hmv]
      clear hM hb0 hc0 hmv
      by_cases hjn : j < d
      case neg =>
        obtain rfl : j = d := by omega
        have HE : Hid (ps = Mt.run L n j (r.toNat - (k + 1)) pj (if pj.length = pz.length then s' / 2 else s') ∧ pj.length ≤ 1 + (k + 1) * j) := by
          have h1 := HS.out.2.2.2.2
          rw [show r.toNat - k = (r.toNat - (k + 1)) + 1 by omega, run_pos hs2, ← HJ.out.2.2.2] at h1
          refine ⟨h1, ?_⟩
          have h2 := Mt.rnd_step HS.out.2.2.1 s' j
          rw [← HJ.out.2.2.2] at h2
          have h3 := HS.out.2.2.2.1
          rw [Nat.succ_mul]
          omega
        have hkk : (k : Int) + 1 ≤ r := by omega
        have htd : Int.tdiv s' 2 = s' / 2 := by rw [Int.tdiv_eq_ediv_of_nonneg (by omega)]
        clear H
        by_cases hm : mv = true
        · subst hm
          have hl : Hid (¬ pj.length = pz.length) := by
            have h2 : true = decide (pz.length < pj.length) := HI.out.2.2.2
            have h3 : pz.length < pj.length := by simpa using h2.symm
            show ¬ _
            omega
          go_wp2
          go_roundw
          case rel => exact ⟨k + 1, s', pj, vp, vm, bs, cs, by omega, by omega, by omega, by simp, rfl, by rw [HI.out.2.1, HI.out.2.2.1], by rw [HI.out.1], HJ.out.1, HJ.out.2.1, HJ.out.2.2.1, HE.out.2, by have h := HE.out.1; rw [if_neg hl.out] at h; exact h⟩
          case measure => simp [intOf]; omega
        · have hm' : mv = false := by simpa using hm
          subst hm'
          have hl : Hid (pj.length = pz.length) := by
            have h2 : false = decide (pz.length < pj.length) := HI.out.2.2.2
            have h3 : ¬ pz.length < pj.length := by simpa using h2.symm
            have h4 := HLj.out.1
            show _ = _
            omega
          clear hm
          go_wp2
          go_roundw
          case rel => exact ⟨k + 1, s' / 2, pj, vp, vm, bs, cs, by omega, by omega, by omega, by simp, by first | rfl | rw [htd] | (simp [htd]; done), by rw [HI.out.2.1, HI.out.2.2.1], by rw [HI.out.1], HJ.out.1, HJ.out.2.1, HJ.out.2.2.1, HE.out.2, by have h := HE.out.1; rw [if_pos hl.out] at h; exact h⟩
          case measure => simp [intOf]; omega
      case pos =>
        have HX := Mt.nb_b HJ.out.2.2.1.last hjn
        have hjI : (j : Int) < d := by omega
        have HRow : Hid (RdRow wr (.slice (some ⟨b0, 0, none⟩) d c0) d (Mt.lst pj)) := by
          have h1 := HJ.out.1.pth.last HJ.out.2.2.1.ne
          rw [HI.out.2.1, HI.out.2.2.1]
          exact h1
        obtain ⟨wj, rfl⟩ : ∃ v, v = wr := ⟨_, rfl⟩
        obtain ⟨xp, yp, rfl⟩ := owns_shape HJ.out.1.pth.top
        obtain ⟨xm, ym, rfl⟩ := owns_shape HJ.out.1.pth.mer
        have hc1 : -s' ≤ s' := by omega
        have hwn : wrap64 (-s') = -s' := by unfold wrap64; omega
        have HST : ∀ W y, Below wj.heap.size wj W → -1000 ≤ y → y ≤ 1000 → Calls Try.prog 73 #[.slice (some ⟨b0, 0, none⟩) d c0, .int .i64 (j : Int), .int .i64 y] W fun e w' => ∃ g cap, e = .returned (.slice (some ⟨g, 0, none⟩) d cap) ∧ W.heap.size ≤ g ∧ g < w'.heap.size ∧ Seg w' g 2 0 d (fun i => .int .i64 (Mt.nb (Mt.lst pj) j y i)) ∧ Below W.heap.size W w' := fun W y hb h1 h2 => sStep_any (HRow.out.later hb) hjn hdn HX ⟨h1, h2⟩
        clear HX
        go_upto_region 17 with fail
        refine wp_loop_rounds 3 ?_
        rw [rounds_succ]
        have HCa := HST wj s' (Below.refl wj.heap.size wj) (by omega) (by omega)
        obtain ⟨qa, hqa⟩ : ∃ q, q = Mt.tcode L n d (Mt.nb (Mt.lst pj) j s') := ⟨_, rfl⟩
        obtain ⟨ma, hma⟩ : ∃ q, q = Mt.merit L n d (Mt.nb (Mt.lst pj) j s') := ⟨_, rfl⟩
        have HQa : Hid (qa = Mt.tcode L n d (Mt.nb (Mt.lst pj) j s') ∧ ma = Mt.merit L n d (Mt.nb (Mt.lst pj) j s')) := ⟨hqa, hma⟩
        clear hqa hma
        go_upto_region 20 with (first | (go_at_call 73; refine HCa.mono ?_; rintro e ua ⟨ga, kpa, rfl, a1, a2, a3, a4⟩))
        have HAa : Hid (wj.heap.size ≤ ga ∧ Seg ua ga 2 0 d (fun i => .int .i64 (Mt.nb (Mt.lst pj) j s' i)) ∧ Below wj.heap.size wj ua) := ⟨Nat.le_trans ((Below.refl wj.heap.size wj)).size a1, a3, ((Below.refl wj.heap.size wj)).trans (a4.mono ((Below.refl wj.heap.size wj)).size)⟩
        have HMt := sMerit_any (cap := cap) (qc := kpa) HQa.out.1 HQa.out.2 (H ua (HJ.out.2.1.trans (HAa.out.2.2.mono HJ.out.2.1.size))).out.1 HAa.out.2.1.rd HN.out.1 hdn
        clear a1 a2 a3 a4 HCa
        go_upto_region 21 with (first | (go_at_call 33; refine HMt.mono ?_; rintro e va ⟨rfl, hba⟩))
        obtain ⟨Ua, hUa⟩ : ∃ W, W = va.alloc (.cells #[.int .i64 qa, .int .i64 ma] 36) := ⟨_, rfl⟩
        have BU : Hid (Blk Ua va.heap.size #[.int .i64 qa, .int .i64 ma] 36) := by rw [hUa]; exact Blk.new rfl
        have HUa : Hid (Below wj.heap.size wj Ua ∧ Seg Ua ga 2 0 d (fun i => .int .i64 (Mt.nb (Mt.lst pj) j s' i))) := by
          have h1 : Below ua.heap.size ua Ua := by rw [hUa]; exact hba.alloc hba.size _
          exact ⟨HAa.out.2.2.trans (h1.mono HAa.out.2.2.size), HAa.out.2.1.of_block (h1.block _ HAa.out.2.1.lt)⟩
        rw [← hUa]
        clear hUa hba HMt
        have t0 := BU.out.cell (j := 0) (v := .int .i64 qa) rfl
        have t1 := BU.out.cell (j := 1) (v := .int .i64 ma) rfl
        by_cases hza : qa = 0
        case neg =>
          have hqb : (qa == 0) = false := by simpa using hza
          have HWa : Hid (¬ Mt.btr L n d (Mt.lst pj) (Mt.nb (Mt.lst pj) j s') = true) := fun q => hza (by rw [HQa.out.1]; exact (Mt.btr_iff.1 q).1)
          clear hza
          obtain ⟨y2, hy2⟩ : ∃ y, y = s' - 2 * s' := ⟨_, rfl⟩
          have HY2 : Hid (y2 = -s') := by show y2 = -s'; omega
          have hc2 : -s' ≤ y2 := by omega
          have hy2a : -1000 ≤ y2 := by omega
          have hy2b : y2 ≤ 0 := by omega
          go_upto_region 18 with fail
          clear t0 t1 BU
          go_wp2_with fail
          rw [rounds_succ]
          rw [← hy2]
          clear hy2
          have HCb := HST Ua y2 HUa.out.1 (by omega) (by omega)
          obtain ⟨qb, hqb⟩ : ∃ q, q = Mt.tcode L n d (Mt.nb (Mt.lst pj) j y2) := ⟨_, rfl⟩
          obtain ⟨mb, hmb⟩ : ∃ q, q = Mt.merit L n d (Mt.nb (Mt.lst pj) j y2) := ⟨_, rfl⟩
          have HQb : Hid (qb = Mt.tcode L n d (Mt.nb (Mt.lst pj) j y2) ∧ mb = Mt.merit L n d (Mt.nb (Mt.lst pj) j y2)) := ⟨hqb, hmb⟩
          clear hqb hmb
          go_upto_region 20 with (first | (go_at_call 73; refine HCb.mono ?_; rintro e ub ⟨gb, kpb, rfl, a1, a2, a3, a4⟩))
          have HAb : Hid (wj.heap.size ≤ gb ∧ Seg ub gb 2 0 d (fun i => .int .i64 (Mt.nb (Mt.lst pj) j y2 i)) ∧ Below wj.heap.size wj ub) := ⟨Nat.le_trans (HUa.out.1).size a1, a3, (HUa.out.1).trans (a4.mono (HUa.out.1).size)⟩
          have HMt := sMerit_any (cap := cap) (qc := kpb) HQb.out.1 HQb.out.2 (H ub (HJ.out.2.1.trans (HAb.out.2.2.mono HJ.out.2.1.size))).out.1 HAb.out.2.1.rd HN.out.1 hdn
          clear a1 a2 a3 a4 HCb
          go_upto_region 21 with (first | (go_at_call 33; refine HMt.mono ?_; rintro e vb ⟨rfl, hbb⟩))
          obtain ⟨Ub, hUb⟩ : ∃ W, W = vb.alloc (.cells #[.int .i64 qb, .int .i64 mb] 36) := ⟨_, rfl⟩
          have BU : Hid (Blk Ub vb.heap.size #[.int .i64 qb, .int .i64 mb] 36) := by rw [hUb]; exact Blk.new rfl
          have HUb : Hid (Below wj.heap.size wj Ub ∧ Seg Ub gb 2 0 d (fun i => .int .i64 (Mt.nb (Mt.lst pj) j y2 i))) := by
            have h1 : Below ub.heap.size ub Ub := by rw [hUb]; exact hbb.alloc hbb.size _
            exact ⟨HAb.out.2.2.trans (h1.mono HAb.out.2.2.size), HAb.out.2.1.of_block (h1.block _ HAb.out.2.1.lt)⟩
          rw [← hUb]
          clear hUb hbb HMt
          have t0 := BU.out.cell (j := 0) (v := .int .i64 qb) rfl
          have t1 := BU.out.cell (j := 1) (v := .int .i64 mb) rfl
          by_cases hzb : qb = 0
          case neg =>
            have hqb : (qb == 0) = false := by simpa using hzb
            have HWb : Hid (¬ Mt.btr L n d (Mt.lst pj) (Mt.nb (Mt.lst pj) j y2) = true) := fun q => hzb (by rw [HQb.out.1]; exact (Mt.btr_iff.1 q).1)
            clear hzb
            obtain ⟨y3, hy3⟩ : ∃ y, y = y2 - 2 * s' := ⟨_, rfl⟩
            have hc3 : y3 < -s' := by omega
            have HEQ : Hid (pj = Mt.rnd L n d pz s' (j + 1)) := by
              show pj = Mt.tk2 L n d (Mt.rnd L n d pz s' j) j s'
              rw [← HJ.out.2.2.2]; unfold Mt.tk2; rw [if_neg HWa.out]; unfold Mt.tk; rw [← HY2.out, if_neg HWb.out]
            go_upto_region 18 with fail
            clear t0 t1 BU
            go_wp2_with fail
            rw [rounds_succ]
            rw [← hy3]
            clear hy3
            go_wp2
            go_roundw
            case rel => exact ⟨j + 1, pj, _, _, bs, cs, by omega, by simp, by rw [HI.out.2.2.2], by rw [HI.out.2.1, HI.out.2.2.1], by rw [HI.out.1], HJ.out.1.later HUb.out.1, HJ.out.2.1.trans (HUb.out.1.mono HJ.out.2.1.size), HJ.out.2.2.1, HEQ.out⟩
            case measure => simp [intOf]; omega
          case pos =>
          subst hzb
          by_cases hltb : mb < M
          case neg =>
            have HWb : Hid (¬ Mt.btr L n d (Mt.lst pj) (Mt.nb (Mt.lst pj) j y2) = true) := fun q => hltb (by rw [HQb.out.2, HI.out.1]; exact (Mt.btr_iff.1 q).2)
            obtain ⟨y3, hy3⟩ : ∃ y, y = y2 - 2 * s' := ⟨_, rfl⟩
            have hc3 : y3 < -s' := by omega
            have HEQ : Hid (pj = Mt.rnd L n d pz s' (j + 1)) := by
              show pj = Mt.tk2 L n d (Mt.rnd L n d pz s' j) j s'
              rw [← HJ.out.2.2.2]; unfold Mt.tk2; rw [if_neg HWa.out]; unfold Mt.tk; rw [← HY2.out, if_neg HWb.out]
            go_upto_region 18 with fail
            clear t0 t1 BU
            go_wp2_with fail
            rw [rounds_succ]
            rw [← hy3]
            clear hy3
            go_wp2
            go_roundw
            case rel => exact ⟨j + 1, pj, _, _, bs, cs, by omega, by simp, by rw [HI.out.2.2.2], by rw [HI.out.2.1, HI.out.2.2.1], by rw [HI.out.1], HJ.out.1.later HUb.out.1, HJ.out.2.1.trans (HUb.out.1.mono HJ.out.2.1.size), HJ.out.2.2.1, HEQ.out⟩
            case measure => simp [intOf]; omega
          case pos =>
          have HWb : Hid (Mt.btr L n d (Mt.lst pj) (Mt.nb (Mt.lst pj) j y2) = true) := Mt.btr_iff.2 ⟨HQb.out.1.symm, by rw [← HQb.out.2, ← HI.out.1]; exact hltb⟩
          have GU : Hid (Go3 Ub w.heap.size w.heap.size bx (.slice xp pj.length yp) (.slice xm (mers L n d pj).length ym) bs cs d pj (mers L n d pj)) := HJ.out.1.later HUb.out.1
          have p1 := GU.out.box.cell (j := 1) (v := .slice xp pj.length yp) rfl
          have hlow := GU.out.low
          go_upto_region 26 with (first | (at_builtin; refine pushPt rfl (.tmp 91) (.tmp 93) rfl Ub w.heap.size _ pj.length (rvs bs cs d pj.length) (by simp [Act.eval]) GU.out.pth.top gb d kpb 1 (by simp [Act.eval]) (by have := HLj.out.2; omega) hlow ?_; intro pa pc w4 ho4 hg4; have hB4 := (GU.out.box.alloc _).grownBy hg4 (ownsB_ne GU.out.pth.top GU.out.box (by decide)); have f4 := hB4.frozen; have d4 := hB4.cell (j := 1) rfl))
          have HV : Hid (Go3 (w4.setCell ⟨bx, 1, none⟩ (.slice pa (pj.length + 1) pc)) w.heap.size w.heap.size bx (.slice pa (pj.length + 1) pc) (.slice xm (mers L n d pj).length ym) (upd bs pj.length gb) (upd cs pj.length kpb) d (pj ++ [Mt.nb (Mt.lst pj) j y2]) (mers L n d pj) ∧ Below w.heap.size wj (w4.setCell ⟨bx, 1, none⟩ (.slice pa (pj.length + 1) pc))) := HJ.out.1.takeP HUb.out.1 HAb.out.1 HUb.out.2 ho4 hg4
          obtain ⟨V, hV⟩ : ∃ W, W = w4.setCell ⟨bx, 1, none⟩ (.slice pa (pj.length + 1) pc) := ⟨_, rfl⟩
          rw [← hV] at HV ⊢
          clear hV ho4 hg4 hB4 f4 d4 p1 t0 t1 GU hlow
          have p2 := HV.out.1.box.cell (j := 2) (v := .slice xm (mers L n d pj).length ym) rfl
          have hlow := HV.out.1.low
          go_wp2_with (first | (at_builtin; refine pushL rfl (.tmp 97) (.tmp 99) rfl V mb w.heap.size _ (mers L n d pj) (by simp [Act.eval]) HV.out.1.pth.mer 1 (by simp [Act.eval]) (by rw [mers_len]; have := HLj.out.2; omega) hlow ?_; intro ma mc w5 ho5 hg5 hp5; have hB5 := (HV.out.1.box.alloc _).grownBy hg5 (ownsB_ne HV.out.1.pth.mer HV.out.1.box (by decide)); have f5 := hB5.frozen; have d5 := hB5.cell (j := 2) rfl; have HY := HV.out.1.takeM ho5 hg5 hp5; have HZ : Hid _ := HY; clear HY hB5 ho5 hg5 hp5))
          go_roundw
          case rel => exact ⟨j + 1, pj ++ [Mt.nb (Mt.lst pj) j y2], _, _, upd bs pj.length gb, upd cs pj.length kpb, by omega, by simp, by have := HLj.out.1; simp; omega, by rw [show (pj ++ [Mt.nb (Mt.lst pj) j y2]).length - 1 = pj.length by simp, upd_at, upd_at], by rw [Mt.lst_snoc, HQb.out.2], by have h := HZ.out.1; rw [HQb.out.2, ← mers_snoc] at h; rw [mers_snoc]; rw [mers_snoc] at h; exact h, (HJ.out.2.1.trans HV.out.2).trans HZ.out.2, HJ.out.2.2.1.snoc HQb.out.1.symm, by show _ = Mt.tk2 L n d (Mt.rnd L n d pz s' j) j s'; rw [← HJ.out.2.2.2]; unfold Mt.tk2; rw [if_neg HWa.out]; unfold Mt.tk; rw [← HY2.out, if_pos HWb.out]⟩
          case measure => simp [intOf]; omega
        case pos =>
        subst hza
        by_cases hlta : ma < M
        case neg =>
          have HWa : Hid (¬ Mt.btr L n d (Mt.lst pj) (Mt.nb (Mt.lst pj) j s') = true) := fun q => hlta (by rw [HQa.out.2, HI.out.1]; exact (Mt.btr_iff.1 q).2)
          obtain ⟨y2, hy2⟩ : ∃ y, y = s' - 2 * s' := ⟨_, rfl⟩
          have HY2 : Hid (y2 = -s') := by show y2 = -s'; omega
          have hc2 : -s' ≤ y2 := by omega
          have hy2a : -1000 ≤ y2 := by omega
          have hy2b : y2 ≤ 0 := by omega
          go_upto_region 18 with fail
          clear t0 t1 BU
          go_wp2_with fail
          rw [rounds_succ]
          rw [← hy2]
          clear hy2
          have HCb := HST Ua y2 HUa.out.1 (by omega) (by omega)
          obtain ⟨qb, hqb⟩ : ∃ q, q = Mt.tcode L n d (Mt.nb (Mt.lst pj) j y2) := ⟨_, rfl⟩
          obtain ⟨mb, hmb⟩ : ∃ q, q = Mt.merit L n d (Mt.nb (Mt.lst pj) j y2) := ⟨_, rfl⟩
          have HQb : Hid (qb = Mt.tcode L n d (Mt.nb (Mt.lst pj) j y2) ∧ mb = Mt.merit L n d (Mt.nb (Mt.lst pj) j y2)) := ⟨hqb, hmb⟩
          clear hqb hmb
          go_upto_region 20 with (first | (go_at_call 73; refine HCb.mono ?_; rintro e ub ⟨gb, kpb, rfl, a1, a2, a3, a4⟩))
          have HAb : Hid (wj.heap.size ≤ gb ∧ Seg ub gb 2 0 d (fun i => .int .i64 (Mt.nb (Mt.lst pj) j y2 i)) ∧ Below wj.heap.size wj ub) := ⟨Nat.le_trans (HUa.out.1).size a1, a3, (HUa.out.1).trans (a4.mono (HUa.out.1).size)⟩
          have HMt := sMerit_any (cap := cap) (qc := kpb) HQb.out.1 HQb.out.2 (H ub (HJ.out.2.1.trans (HAb.out.2.2.mono HJ.out.2.1.size))).out.1 HAb.out.2.1.rd HN.out.1 hdn
          clear a1 a2 a3 a4 HCb
          go_upto_region 21 with (first | (go_at_call 33; refine HMt.mono ?_; rintro e vb ⟨rfl, hbb⟩))
          obtain ⟨Ub, hUb⟩ : ∃ W, W = vb.alloc (.cells #[.int .i64 qb, .int .i64 mb] 36) := ⟨_, rfl⟩
          have BU : Hid (Blk Ub vb.heap.size #[.int .i64 qb, .int .i64 mb] 36) := by rw [hUb]; exact Blk.new rfl
          have HUb : Hid (Below wj.heap.size wj Ub ∧ Seg Ub gb 2 0 d (fun i => .int .i64 (Mt.nb (Mt.lst pj) j y2 i))) := by
            have h1 : Below ub.heap.size ub Ub := by rw [hUb]; exact hbb.alloc hbb.size _
            exact ⟨HAb.out.2.2.trans (h1.mono HAb.out.2.2.size), HAb.out.2.1.of_block (h1.block _ HAb.out.2.1.lt)⟩
          rw [← hUb]
          clear hUb hbb HMt
          have t0 := BU.out.cell (j := 0) (v := .int .i64 qb) rfl
          have t1 := BU.out.cell (j := 1) (v := .int .i64 mb) rfl
          by_cases hzb : qb = 0
          case neg =>
            have hqb : (qb == 0) = false := by simpa using hzb
            have HWb : Hid (¬ Mt.btr L n d (Mt.lst pj) (Mt.nb (Mt.lst pj) j y2) = true) := fun q => hzb (by rw [HQb.out.1]; exact (Mt.btr_iff.1 q).1)
            clear hzb
            obtain ⟨y3, hy3⟩ : ∃ y, y = y2 - 2 * s' := ⟨_, rfl⟩
            have hc3 : y3 < -s' := by omega
            have HEQ : Hid (pj = Mt.rnd L n d pz s' (j + 1)) := by
              show pj = Mt.tk2 L n d (Mt.rnd L n d pz s' j) j s'
              rw [← HJ.out.2.2.2]; unfold Mt.tk2; rw [if_neg HWa.out]; unfold Mt.tk; rw [← HY2.out, if_neg HWb.out]
            go_upto_region 18 with fail
            clear t0 t1 BU
            go_wp2_with fail
            rw [rounds_succ]
            rw [← hy3]
            clear hy3
            go_wp2
            go_roundw
            case rel => exact ⟨j + 1, pj, _, _, bs, cs, by omega, by simp, by rw [HI.out.2.2.2], by rw [HI.out.2.1, HI.out.2.2.1], by rw [HI.out.1], HJ.out.1.later HUb.out.1, HJ.out.2.1.trans (HUb.out.1.mono HJ.out.2.1.size), HJ.out.2.2.1, HEQ.out⟩
            case measure => simp [intOf]; omega
          case pos =>
          subst hzb
          by_cases hltb : mb < M
          case neg =>
            have HWb : Hid (¬ Mt.btr L n d (Mt.lst pj) (Mt.nb (Mt.lst pj) j y2) = true) := fun q => hltb (by rw [HQb.out.2, HI.out.1]; exact (Mt.btr_iff.1 q).2)
            obtain ⟨y3, hy3⟩ : ∃ y, y = y2 - 2 * s' := ⟨_, rfl⟩
            have hc3 : y3 < -s' := by omega
            have HEQ : Hid (pj = Mt.rnd L n d pz s' (j + 1)) := by
              show pj = Mt.tk2 L n d (Mt.rnd L n d pz s' j) j s'
              rw [← HJ.out.2.2.2]; unfold Mt.tk2; rw [if_neg HWa.out]; unfold Mt.tk; rw [← HY2.out, if_neg HWb.out]
            go_upto_region 18 with fail
            clear t0 t1 BU
            go_wp2_with fail
            rw [rounds_succ]
            rw [← hy3]
            clear hy3
            go_wp2
            go_roundw
            case rel => exact ⟨j + 1, pj, _, _, bs, cs, by omega, by simp, by rw [HI.out.2.2.2], by rw [HI.out.2.1, HI.out.2.2.1], by rw [HI.out.1], HJ.out.1.later HUb.out.1, HJ.out.2.1.trans (HUb.out.1.mono HJ.out.2.1.size), HJ.out.2.2.1, HEQ.out⟩
            case measure => simp [intOf]; omega
          case pos =>
          have HWb : Hid (Mt.btr L n d (Mt.lst pj) (Mt.nb (Mt.lst pj) j y2) = true) := Mt.btr_iff.2 ⟨HQb.out.1.symm, by rw [← HQb.out.2, ← HI.out.1]; exact hltb⟩
          have GU : Hid (Go3 Ub w.heap.size w.heap.size bx (.slice xp pj.length yp) (.slice xm (mers L n d pj).length ym) bs cs d pj (mers L n d pj)) := HJ.out.1.later HUb.out.1
          have p1 := GU.out.box.cell (j := 1) (v := .slice xp pj.length yp) rfl
          have hlow := GU.out.low
          go_upto_region 26 with (first | (at_builtin; refine pushPt rfl (.tmp 91) (.tmp 93) rfl Ub w.heap.size _ pj.length (rvs bs cs d pj.length) (by simp [Act.eval]) GU.out.pth.top gb d kpb 1 (by simp [Act.eval]) (by have := HLj.out.2; omega) hlow ?_; intro pa pc w4 ho4 hg4; have hB4 := (GU.out.box.alloc _).grownBy hg4 (ownsB_ne GU.out.pth.top GU.out.box (by decide)); have f4 := hB4.frozen; have d4 := hB4.cell (j := 1) rfl))
          have HV : Hid (Go3 (w4.setCell ⟨bx, 1, none⟩ (.slice pa (pj.length + 1) pc)) w.heap.size w.heap.size bx (.slice pa (pj.length + 1) pc) (.slice xm (mers L n d pj).length ym) (upd bs pj.length gb) (upd cs pj.length kpb) d (pj ++ [Mt.nb (Mt.lst pj) j y2]) (mers L n d pj) ∧ Below w.heap.size wj (w4.setCell ⟨bx, 1, none⟩ (.slice pa (pj.length + 1) pc))) := HJ.out.1.takeP HUb.out.1 HAb.out.1 HUb.out.2 ho4 hg4
          obtain ⟨V, hV⟩ : ∃ W, W = w4.setCell ⟨bx, 1, none⟩ (.slice pa (pj.length + 1) pc) := ⟨_, rfl⟩
          rw [← hV] at HV ⊢
          clear hV ho4 hg4 hB4 f4 d4 p1 t0 t1 GU hlow
          have p2 := HV.out.1.box.cell (j := 2) (v := .slice xm (mers L n d pj).length ym) rfl
          have hlow := HV.out.1.low
          go_wp2_with (first | (at_builtin; refine pushL rfl (.tmp 97) (.tmp 99) rfl V mb w.heap.size _ (mers L n d pj) (by simp [Act.eval]) HV.out.1.pth.mer 1 (by simp [Act.eval]) (by rw [mers_len]; have := HLj.out.2; omega) hlow ?_; intro ma mc w5 ho5 hg5 hp5; have hB5 := (HV.out.1.box.alloc _).grownBy hg5 (ownsB_ne HV.out.1.pth.mer HV.out.1.box (by decide)); have f5 := hB5.frozen; have d5 := hB5.cell (j := 2) rfl; have HY := HV.out.1.takeM ho5 hg5 hp5; have HZ : Hid _ := HY; clear HY hB5 ho5 hg5 hp5))
          go_roundw
          case rel => exact ⟨j + 1, pj ++ [Mt.nb (Mt.lst pj) j y2], _, _, upd bs pj.length gb, upd cs pj.length kpb, by omega, by simp, by have := HLj.out.1; simp; omega, by rw [show (pj ++ [Mt.nb (Mt.lst pj) j y2]).length - 1 = pj.length by simp, upd_at, upd_at], by rw [Mt.lst_snoc, HQb.out.2], by have h := HZ.out.1; rw [HQb.out.2, ← mers_snoc] at h; rw [mers_snoc]; rw [mers_snoc] at h; exact h, (HJ.out.2.1.trans HV.out.2).trans HZ.out.2, HJ.out.2.2.1.snoc HQb.out.1.symm, by show _ = Mt.tk2 L n d (Mt.rnd L n d pz s' j) j s'; rw [← HJ.out.2.2.2]; unfold Mt.tk2; rw [if_neg HWa.out]; unfold Mt.tk; rw [← HY2.out, if_pos HWb.out]⟩
          case measure => simp [intOf]; omega
        case pos =>
        have HWa : Hid (Mt.btr L n d (Mt.lst pj) (Mt.nb (Mt.lst pj) j s') = true) := Mt.btr_iff.2 ⟨HQa.out.1.symm, by rw [← HQa.out.2, ← HI.out.1]; exact hlta⟩
        have GU : Hid (Go3 Ua w.heap.size w.heap.size bx (.slice xp pj.length yp) (.slice xm (mers L n d pj).length ym) bs cs d pj (mers L n d pj)) := HJ.out.1.later HUa.out.1
        have p1 := GU.out.box.cell (j := 1) (v := .slice xp pj.length yp) rfl
        have hlow := GU.out.low
        go_upto_region 26 with (first | (at_builtin; refine pushPt rfl (.tmp 91) (.tmp 93) rfl Ua w.heap.size _ pj.length (rvs bs cs d pj.length) (by simp [Act.eval]) GU.out.pth.top ga d kpa 1 (by simp [Act.eval]) (by have := HLj.out.2; omega) hlow ?_; intro pa pc w4 ho4 hg4; have hB4 := (GU.out.box.alloc _).grownBy hg4 (ownsB_ne GU.out.pth.top GU.out.box (by decide)); have f4 := hB4.frozen; have d4 := hB4.cell (j := 1) rfl))
        have HV : Hid (Go3 (w4.setCell ⟨bx, 1, none⟩ (.slice pa (pj.length + 1) pc)) w.heap.size w.heap.size bx (.slice pa (pj.length + 1) pc) (.slice xm (mers L n d pj).length ym) (upd bs pj.length ga) (upd cs pj.length kpa) d (pj ++ [Mt.nb (Mt.lst pj) j s']) (mers L n d pj) ∧ Below w.heap.size wj (w4.setCell ⟨bx, 1, none⟩ (.slice pa (pj.length + 1) pc))) := HJ.out.1.takeP HUa.out.1 HAa.out.1 HUa.out.2 ho4 hg4
        obtain ⟨V, hV⟩ : ∃ W, W = w4.setCell ⟨bx, 1, none⟩ (.slice pa (pj.length + 1) pc) := ⟨_, rfl⟩
        rw [← hV] at HV ⊢
        clear hV ho4 hg4 hB4 f4 d4 p1 t0 t1 GU hlow
        have p2 := HV.out.1.box.cell (j := 2) (v := .slice xm (mers L n d pj).length ym) rfl
        have hlow := HV.out.1.low
        go_wp2_with (first | (at_builtin; refine pushL rfl (.tmp 97) (.tmp 99) rfl V ma w.heap.size _ (mers L n d pj) (by simp [Act.eval]) HV.out.1.pth.mer 1 (by simp [Act.eval]) (by rw [mers_len]; have := HLj.out.2; omega) hlow ?_; intro ma mc w5 ho5 hg5 hp5; have hB5 := (HV.out.1.box.alloc _).grownBy hg5 (ownsB_ne HV.out.1.pth.mer HV.out.1.box (by decide)); have f5 := hB5.frozen; have d5 := hB5.cell (j := 2) rfl; have HY := HV.out.1.takeM ho5 hg5 hp5; have HZ : Hid _ := HY; clear HY hB5 ho5 hg5 hp5))
        go_roundw
        case rel => exact ⟨j + 1, pj ++ [Mt.nb (Mt.lst pj) j s'], _, _, upd bs pj.length ga, upd cs pj.length kpa, by omega, by simp, by have := HLj.out.1; simp; omega, by rw [show (pj ++ [Mt.nb (Mt.lst pj) j s']).length - 1 = pj.length by simp, upd_at, upd_at], by rw [Mt.lst_snoc, HQa.out.2], by have h := HZ.out.1; rw [HQa.out.2, ← mers_snoc] at h; rw [mers_snoc]; rw [mers_snoc] at h; exact h, (HJ.out.2.1.trans HV.out.2).trans HZ.out.2, HJ.out.2.2.1.snoc HQa.out.1.symm, by show _ = Mt.tk2 L n d (Mt.rnd L n d pz s' j) j s'; rw [← HJ.out.2.2.2]; unfold Mt.tk2; rw [if_pos HWa.out]⟩
        case measure => simp [intOf]; omega
end Go.Proofs.Ytelejihgechmgaa
