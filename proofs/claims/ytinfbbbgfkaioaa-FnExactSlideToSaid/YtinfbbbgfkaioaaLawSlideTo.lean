/- At every argument the program's SlideTo answers as the specification, where the law's own bound on the sizes does not answer first; what it answers owns its memory; nothing that was there is changed. -/
import Derived.Test.YtinfbbbgfkaioaaSe
import Derived.Test.YtinfbbbgfkaioaaSf
import Derived.Test.YtinfbbbgfkaioaaOl
import Derived.Test.YtinfbbbgfkaioaaRw
import Derived.Test.YtinfbbbgfkaioaaLm
import Derived.Test.YtinfbbbgfkaioaaLr
import Derived.Handy
import Derived.Deep.RegionHeld3
import Derived.Deep.DeepCutAuto
namespace Go.Proofs.Ytinfbbbgfkaioaa.LawSlideTo
open Go.ChangeShapes Go.WideShapes Go.ChangeAt Go.RowKit Go.Joins
set_option linter.unusedVariables false

theorem slid_few {n : Nat} {L : Nat → Li} {k : Nat} {t : Int} (h : LFew n L) : LFew n (slid L k t) := by
  have e : (fun i => (slid L k t i).np) = fun i => (L i).np := funext fun i => by unfold slid; split <;> rfl
  exact ⟨h.cn, by show Sm (fun i => (slid L k t i).np) n ≤ _; rw [e]; exact h.cs⟩
/-- A call's answer in memory between bounds. -/
theorem weakS {P : Program} {f : Nat} {args : Array Value} {w : World} {c : Int} {n : Nat} {L : Nat → Li} (h : Calls P f args w fun e w' => ∃ v, e = .returned (.agg #[.int .i64 c, v]) ∧ OutB w.heap.size w'.heap.size w' c v n L ∧ Below w.heap.size w w') :
    Calls P f args w fun e w' => ∃ v lo hi, e = .returned (.agg #[.int .i64 c, v]) ∧ w.heap.size ≤ lo ∧ lo ≤ hi ∧ hi ≤ w'.heap.size ∧ OutB lo hi w' c v n L ∧ Below w.heap.size w w' := by
  refine h.mono ?_
  rintro e w' ⟨v, rfl, h1, h2⟩
  exact ⟨v, _, _, rfl, Nat.le_refl _, h2.size, Nat.le_refl _, h1, h2⟩
theorem weakG {P : Program} {f : Nat} {args : Array Value} {w : World} {c : Int} {n : Nat} {L : Nat → Li} (h : Calls P f args w fun e w' => ∃ v, e = .returned (.agg #[.int .i64 c, v]) ∧ OwnQ w.heap.size w'.heap.size w' c v n L ∧ Below w.heap.size w w') :
    Calls P f args w fun e w' => ∃ v lo hi, e = .returned (.agg #[.int .i64 c, v]) ∧ w.heap.size ≤ lo ∧ lo ≤ hi ∧ hi ≤ w'.heap.size ∧ OwnQ lo hi w' c v n L ∧ Below w.heap.size w w' := by
  refine h.mono ?_
  rintro e w' ⟨v, rfl, h1, h2⟩
  exact ⟨v, _, _, rfl, Nat.le_refl _, h2.size, Nat.le_refl _, h1, h2⟩
theorem keep_set2 {W : World} {lo hi b i j : Nat} {u v : Value} (h : b < lo ∨ hi ≤ b) : Keep lo hi W ((W.setCell ⟨b, i, none⟩ u).setCell ⟨b, j, none⟩ v) := fun k h1 h2 => by
  rw [Below.heap_setCell _ _ _ _ (by show k ≠ b; omega), Below.heap_setCell _ _ _ _ (by show k ≠ b; omega)]
set_option maxHeartbeats 8000000 in
set_option maxRecDepth 20000 in
theorem walk {w : World} {nodes0 slots0 : Int} {ao0 : Option Addr} {nf0 cp0 : Nat} {F0 : Nat → Fb} (hf0 : Rf w (.slice ao0 nf0 cp0) nf0 F0) (nb0 : nf0 ≤ 9223372036854775807) (wl00 : -9223372036854775808 ≤ nodes0) (wl10 : nodes0 ≤ 9223372036854775807) (wl20 : -9223372036854775808 ≤ slots0) (wl30 : slots0 ≤ 9223372036854775807) {v1 : Value} {nl1 : Nat} {L1 : Nat → Li} (h1 : RdL w v1 nl1 L1) (nb1 : nl1 ≤ 9223372036854775807) (lb1 : LBd nl1 L1) (id2 t2 : Int) :
    Calls Try.prog 4 #[.agg #[.int .i64 nodes0, .int .i64 slots0, .slice ao0 nf0 cp0], v1, .agg #[.int .i64 id2, .int .i64 t2]] w fun e w' => e = .returned (.bool true) ∧ Below w.heap.size w w' := by
  have H0 : Hid (Rf w (.slice ao0 nf0 cp0) nf0 F0) := hf0
  clear hf0
  obtain ⟨va1, vc1, ev1⟩ : ∃ ao cap, v1 = .slice ao nl1 cap := h1.shape
  subst ev1
  have H1 : Hid (RdL w (.slice va1 nl1 vc1) nl1 L1) := h1
  have HB1 : Hid (LBd nl1 L1) := lb1
  clear h1 lb1
  have D_w : Hid (Below w.heap.size w w) := Below.refl _ _
  have zw : w.heap.size ≤ w.heap.size := Nat.le_refl _
  obtain ⟨c, hcc⟩ : ∃ c, c = slc nodes0 slots0 nf0 F0 nl1 L1 id2 t2 := ⟨_, rfl⟩
  have HCC : Hid (c = slc nodes0 slots0 nf0 F0 nl1 L1 id2 t2) := hcc
  have HNM : Hid (c = 0 → LFew nl1 L1 → LFew nl1 (slid L1 (fnd L1 id2 nl1).toNat t2)) := fun _ h => slid_few h
  clear hcc
  go_enter Try.func4, Try.ntmps4
  go_wp2_with fail
  obtain ⟨w1, hwdw1⟩ : ∃ W, W = w.alloc (.cells #[.int .i64 nodes0, .int .i64 slots0, .slice ao0 nf0 cp0] 24) := ⟨_, rfl⟩
  have B_a0 : Hid (Blk w1 w.heap.size #[.int .i64 nodes0, .int .i64 slots0, .slice ao0 nf0 cp0] 24) := by rw [hwdw1]; exact Blk.new rfl
  have hbb : Below w.heap.size w w1 := by rw [hwdw1]; exact (Below.refl _ _).alloc (Nat.le_refl _) _
  have yw1 : w.heap.size + 1 = w1.heap.size := by rw [hwdw1]; simp
  have zw1 : w.heap.size ≤ w1.heap.size := hbb.size
  replace D_w : Hid (Below w.heap.size w w1) := D_w.out.trans (hbb.mono (by omega))
  clear hbb
  obtain ⟨w2, hwdw2⟩ : ∃ W, W = w1.alloc (.cells #[.int .i64 id2, .int .i64 t2] 51) := ⟨_, rfl⟩
  have B_a2 : Hid (Blk w2 w1.heap.size #[.int .i64 id2, .int .i64 t2] 51) := by rw [hwdw2]; exact Blk.new rfl
  have hbb : Below w1.heap.size w1 w2 := by rw [hwdw2]; exact (Below.refl _ _).alloc (Nat.le_refl _) _
  have yw2 : w1.heap.size + 1 = w2.heap.size := by rw [hwdw2]; simp
  have zw2 : w1.heap.size ≤ w2.heap.size := hbb.size
  replace B_a0 : Hid (Blk w2 w.heap.size #[.int .i64 nodes0, .int .i64 slots0, .slice ao0 nf0 cp0] 24) := B_a0.out.old hbb
  replace D_w : Hid (Below w.heap.size w w2) := D_w.out.trans (hbb.mono (by omega))
  clear hbb
  first | (rw [yw1, ← hwdw1, ← hwdw2]) | (rw [← hwdw1, ← hwdw2, yw1]) | (rw [← hwdw1, yw1, ← hwdw2]) | (rw [← hwdw1, ← hwdw2])
  clear hwdw1 hwdw2
  refine (szNet_any _ _ _ _ _ 1048576 _ (by omega) (by omega) nb0).mono ?_
  rintro e w3 ⟨rfl, hbb⟩
  have zw3 : w2.heap.size ≤ w3.heap.size := hbb.size
  replace B_a0 : Hid (Blk w3 w.heap.size #[.int .i64 nodes0, .int .i64 slots0, .slice ao0 nf0 cp0] 24) := B_a0.out.old hbb
  replace B_a2 : Hid (Blk w3 w1.heap.size #[.int .i64 id2, .int .i64 t2] 51) := B_a2.out.old hbb
  replace D_w : Hid (Below w.heap.size w w3) := D_w.out.trans (hbb.mono (by omega))
  clear hbb
  obtain ⟨left0, hleft0⟩ : ∃ l, l = szN 1048576 nf0 := ⟨_, rfl⟩
  rw [← hleft0]
  by_cases hr0 : left0 < 0
  · go_wp2
    go_ret
    exact ⟨rfl, D_w.out⟩
  have hs0 := szN_ok (hleft0 ▸ hr0)
  have hs0b : left0 ≤ 1048576 := by rw [hleft0]; exact szN_le _ _ (by omega)
  clear hleft0
  have c_a0_0 := B_a0.out.cell (j := 0) rfl
  have c_a0_1 := B_a0.out.cell (j := 1) rfl
  have c_a0_2 := B_a0.out.cell (j := 2) rfl
  have l_a0 := B_a0.out.lt
  go_wp2_with fail
  refine (szLits_any (H1.out.later D_w.out) left0 (by omega) (by omega) nb1 HB1.out).mono ?_
  rintro e w4 ⟨left1, rfl, ht, hbb⟩
  clear c_a0_0 c_a0_1 c_a0_2 l_a0
  have zw4 : w3.heap.size ≤ w4.heap.size := hbb.size
  replace B_a0 : Hid (Blk w4 w.heap.size #[.int .i64 nodes0, .int .i64 slots0, .slice ao0 nf0 cp0] 24) := B_a0.out.old hbb
  replace B_a2 : Hid (Blk w4 w1.heap.size #[.int .i64 id2, .int .i64 t2] 51) := B_a2.out.old hbb
  replace D_w : Hid (Below w.heap.size w w4) := D_w.out.trans (hbb.mono (by omega))
  clear hbb
  have HT1 : Hid (ToldL nl1 L1 left0 left1) := ht
  clear ht
  by_cases hr1 : left1 < 0
  · go_wp2
    go_ret
    exact ⟨rfl, D_w.out⟩
  have hs1 := ToldL.ok HT1.out hr1
  have hs1b : left1 ≤ left0 := ToldL.le HT1.out hr1
  have hm1 : (nl1 : Int) ≤ 1048576 := by omega
  have HS1 : Hid (LFew nl1 L1) := ⟨by omega, by have := hs1; omega⟩
  clear HT1
  have HNL : Hid (c = 0 → LFew nl1 (slid L1 (fnd L1 id2 nl1).toNat t2)) := fun h => HNM.out h HS1.out
  have q_a0_0 : ∀ W, Below w4.heap.size w4 W → W.cell? ⟨w.heap.size, 0, none⟩ = some (.int .i64 nodes0) := fun W h => (B_a0.out.old h).cell (j := 0) rfl
  have q_a0_1 : ∀ W, Below w4.heap.size w4 W → W.cell? ⟨w.heap.size, 1, none⟩ = some (.int .i64 slots0) := fun W h => (B_a0.out.old h).cell (j := 1) rfl
  have q_a0_2 : ∀ W, Below w4.heap.size w4 W → W.cell? ⟨w.heap.size, 2, none⟩ = some (.slice ao0 nf0 cp0) := fun W h => (B_a0.out.old h).cell (j := 2) rfl
  have q_a2_0 : ∀ W, Below w4.heap.size w4 W → W.cell? ⟨w1.heap.size, 0, none⟩ = some (.int .i64 id2) := fun W h => (B_a2.out.old h).cell (j := 0) rfl
  have q_a2_1 : ∀ W, Below w4.heap.size w4 W → W.cell? ⟨w1.heap.size, 1, none⟩ = some (.int .i64 t2) := fun W h => (B_a2.out.old h).cell (j := 1) rfl
  have QN : ∀ W, Below w4.heap.size w4 W → Hid (Rf W (.slice ao0 nf0 cp0) nf0 F0 ∧ RdL W (.slice va1 nl1 vc1) nl1 L1) := fun W h => ⟨H0.out.later (D_w.out.trans (h.mono (by omega))), H1.out.later (D_w.out.trans (h.mono (by omega)))⟩
  have hR0 : Below w4.heap.size w4 w4 := Below.refl _ _
  go_wp2_with fail
  go_cut [8] from 26 to 32 (fun p wx => ∃ (kx : Nat) (v : Value) (lo hi : Nat), p = .pointer (some ⟨kx, 0, none⟩) ∧ w4.heap.size ≤ kx ∧ kx < wx.heap.size ∧ w4.heap.size ≤ lo ∧ lo ≤ hi ∧ hi ≤ wx.heap.size ∧ Below w4.heap.size w4 wx ∧ Blk wx kx #[.int .i64 c, v] 53 ∧ OutB lo hi wx c v nl1 (slid L1 (fnd L1 id2 nl1).toNat t2) ∧ (kx < lo ∨ hi ≤ kx))
  case first =>
    go_region_held3 (fun W => Below w4.heap.size w4 W) (go_grown) (first
      | (go_at_call 13; refine Calls.mono (toNet_any (QN _ (by first | assumption | go_grown)).out.1 (by omega)) ?_; rintro e wa ⟨ga, rfl, ha, ba⟩; have zwa := ba.size; (try simp at zwa); have hRwa : Below w4.heap.size w4 wa := (by refine box_step ?_ ba (by go_size); go_grown); (first | (have hZ := box_step hZ ba (Nat.le_refl _)) | (have hZ := ba)); obtain ⟨ho1, hf1, hz1⟩ := olds hZ; have HA : Hid (Rf wa (.slice (some ⟨ga, 0, none⟩) nf0 nf0) nf0 F0) := ha.rd; have kaa : Below wa.heap.size wa wa := Below.refl _ _; clear ha)
      | (go_at_call 14; refine Calls.mono (toLits_any (QN _ (by first | assumption | go_grown)).out.2 HS1.out) ?_; rintro e wb ⟨gb, rfl, hb', bb⟩; have zwb := bb.size; (try simp at zwb); have hRwb : Below w4.heap.size w4 wb := (by refine box_step ?_ bb (by go_size); go_grown); (first | (have hZ := box_step hZ bb (Nat.le_refl _)) | (have hZ := bb)); obtain ⟨ho1, hf1, hz1⟩ := olds hZ; have HB2 : Hid (RdL wb (.slice (some ⟨gb, 0, none⟩) nl1 nl1) nl1 L1) := hb'.rd; have kbb : Below wb.heap.size wb wb := Below.refl _ _; have kab : Below wa.heap.size wa wb := (by refine box_step ?_ bb (by go_size); go_grown); clear hb')
      | (go_at_call 27; refine Calls.mono (toSl_any id2 t2 _) ?_; rintro e wd ⟨rfl, bd⟩; have zwd := bd.size; (try simp at zwd); have hRwd : Below w4.heap.size w4 wd := (by refine box_step ?_ bd (by go_size); go_grown); (first | (have hZ := box_step hZ bd (Nat.le_refl _)) | (have hZ := bd)); obtain ⟨ho1, hf1, hz1⟩ := olds hZ; have kad : Below wa.heap.size wa wd := (by refine box_step ?_ bd (by go_size); go_grown); have kbd : Below wb.heap.size wb wd := (by refine box_step ?_ bd (by go_size); go_grown))
      | (go_at_call 26; refine Calls.mono (weakS (sSld_any HCC.out (HA.out.later (by first | assumption | go_grown)) (HB2.out.later (by first | assumption | go_grown)) (by omega) HS1.out)) ?_; rintro e we ⟨v, lo, hi, rfl, hlo, hlh, hhi, ov, be⟩; obtain ⟨vo, vk, vc, rfl⟩ := OutQ.shape ov.rd; (try simp at hlo); have zwe := be.size; (try simp at zwe); have hRwe : Below w4.heap.size w4 we := (by refine box_step ?_ be (by go_size); go_grown); (first | (have hZ := box_step hZ be (Nat.le_refl _)) | (have hZ := be)); obtain ⟨ho1, hf1, hz1⟩ := olds hZ; have OV : Hid (OutB lo hi we c (.slice vo vk vc) nl1 (slid L1 (fnd L1 id2 nl1).toNat t2)) := ov; clear ov))
    all_goals
      go_wp2_with fail
      go_meet
      case rel =>
        refine ⟨_, .slice vo vk vc, lo, hi, rfl, ?_, ?_, ?_, hlh, ?_, ?_, ?_, ?_, ?_⟩
        · omega
        · simp [World.setCell] <;> omega
        · omega
        · simp [World.setCell] <;> omega
        · first | assumption | go_grown
        · first | with_reducible exact Blk.new rfl | with_reducible exact Blk.new (by simp) | exact (Blk.set (cs := #[.int .i64 c, .slice none 0 0]) (Blk.set (cs := #[.int .i64 0, .slice none 0 0]) (newOld hZ) _ _ rfl) _ _ rfl) | exact (Blk.set (cs := #[.int .i64 c, .slice none 0 0]) (Blk.set (cs := #[.int .i64 0, .slice none 0 0]) (Blk.old (Blk.drew (Blk.new rfl)) hZ) _ _ rfl) _ _ rfl)
        · first | exact OV.out.keep (keep_set2 (by omega)) | exact OV.out.keep (keep_below ((Below.refl _ _).alloc (Nat.le_refl _) _) (by omega))
        · omega
  case rest =>
    obtain ⟨ks, vs, los, his, rfl, hk1s, hk2s, hl1s, hl3s, hl2s, hbb, hN, ov, hds⟩ := hcut
    obtain ⟨sa, sk, sc, esv⟩ : ∃ ao k cap, vs = .slice ao k cap := OutQ.shape ov.rd
    subst esv
    clear hR0 QN q_a0_0 q_a0_1 q_a0_2 q_a2_0 q_a2_1
    obtain ⟨w5, hv⟩ : ∃ v, v = wc := ⟨_, rfl⟩
    subst hv
    have zw5 : w4.heap.size ≤ w5.heap.size := hbb.size
    replace B_a0 : Hid (Blk w5 w.heap.size #[.int .i64 nodes0, .int .i64 slots0, .slice ao0 nf0 cp0] 24) := B_a0.out.old hbb
    replace B_a2 : Hid (Blk w5 w1.heap.size #[.int .i64 id2, .int .i64 t2] 51) := B_a2.out.old hbb
    replace D_w : Hid (Below w.heap.size w w5) := D_w.out.trans (hbb.mono (by omega))
    clear hbb
    have B_S : Hid (Blk w5 ks #[.int .i64 c, .slice sa sk sc] 53) := hN
    clear hN
    have O_s : Hid (OutB los his w5 c (.slice sa sk sc) nl1 (slid L1 (fnd L1 id2 nl1).toNat t2)) := ov
    clear ov
    have c_a0_0 := B_a0.out.cell (j := 0) rfl
    have c_a0_1 := B_a0.out.cell (j := 1) rfl
    have c_a0_2 := B_a0.out.cell (j := 2) rfl
    have l_a0 := B_a0.out.lt
    go_wp2_with fail
    refine (toNet_any (H0.out.later D_w.out) (by omega)).mono ?_
    rintro e w6 ⟨gx0, rfl, hmo, hbb⟩
    clear c_a0_0 c_a0_1 c_a0_2 l_a0
    have zw6 : w5.heap.size ≤ w6.heap.size := hbb.size
    replace B_a0 : Hid (Blk w6 w.heap.size #[.int .i64 nodes0, .int .i64 slots0, .slice ao0 nf0 cp0] 24) := B_a0.out.old hbb
    replace B_a2 : Hid (Blk w6 w1.heap.size #[.int .i64 id2, .int .i64 t2] 51) := B_a2.out.old hbb
    replace B_S : Hid (Blk w6 ks #[.int .i64 c, .slice sa sk sc] 53) := B_S.out.old hbb
    replace O_s : Hid (OutB los his w6 c (.slice sa sk sc) nl1 (slid L1 (fnd L1 id2 nl1).toNat t2)) := O_s.out.keep (keep_below hbb (by omega))
    replace D_w : Hid (Below w.heap.size w w6) := D_w.out.trans (hbb.mono (by omega))
    clear hbb
    have O_x0 : Hid (OwB w5.heap.size w6.heap.size w6 gx0 nf0 F0) := hmo
    clear hmo
    go_wp2_with fail
    obtain ⟨w7, hwd⟩ : ∃ W, W = w6.alloc (.cells #[.int .i64 nodes0, .int .i64 slots0, .slice (some ⟨gx0, 0, none⟩) nf0 nf0] 37) := ⟨_, rfl⟩
    have NB : Hid (Blk w7 w6.heap.size #[.int .i64 nodes0, .int .i64 slots0, .slice (some ⟨gx0, 0, none⟩) nf0 nf0] 37) := by rw [hwd]; exact Blk.new rfl
    have hbb : Below w6.heap.size w6 w7 := by rw [hwd]; exact (Below.refl _ _).alloc (Nat.le_refl _) _
    have yw7 : w6.heap.size + 1 ≤ w7.heap.size := by rw [hwd]; simp
    rw [← hwd]
    clear hwd
    have zw7 : w6.heap.size ≤ w7.heap.size := hbb.size
    replace B_a0 : Hid (Blk w7 w.heap.size #[.int .i64 nodes0, .int .i64 slots0, .slice ao0 nf0 cp0] 24) := B_a0.out.old hbb
    replace B_a2 : Hid (Blk w7 w1.heap.size #[.int .i64 id2, .int .i64 t2] 51) := B_a2.out.old hbb
    replace B_S : Hid (Blk w7 ks #[.int .i64 c, .slice sa sk sc] 53) := B_S.out.old hbb
    replace O_s : Hid (OutB los his w7 c (.slice sa sk sc) nl1 (slid L1 (fnd L1 id2 nl1).toNat t2)) := O_s.out.keep (keep_below hbb (by omega))
    replace O_x0 : Hid (OwB w5.heap.size w6.heap.size w7 gx0 nf0 F0) := O_x0.out.keep (keep_below hbb (by omega))
    replace D_w : Hid (Below w.heap.size w w7) := D_w.out.trans (hbb.mono (by omega))
    clear hbb
    have B_x0 := NB
    clear NB
    refine (toLits_any (H1.out.later D_w.out) HS1.out).mono ?_
    rintro e w8 ⟨gx1, rfl, hmo, hbb⟩
    have zw8 : w7.heap.size ≤ w8.heap.size := hbb.size
    replace B_a0 : Hid (Blk w8 w.heap.size #[.int .i64 nodes0, .int .i64 slots0, .slice ao0 nf0 cp0] 24) := B_a0.out.old hbb
    replace B_a2 : Hid (Blk w8 w1.heap.size #[.int .i64 id2, .int .i64 t2] 51) := B_a2.out.old hbb
    replace B_S : Hid (Blk w8 ks #[.int .i64 c, .slice sa sk sc] 53) := B_S.out.old hbb
    replace B_x0 : Hid (Blk w8 w6.heap.size #[.int .i64 nodes0, .int .i64 slots0, .slice (some ⟨gx0, 0, none⟩) nf0 nf0] 37) := B_x0.out.old hbb
    replace O_s : Hid (OutB los his w8 c (.slice sa sk sc) nl1 (slid L1 (fnd L1 id2 nl1).toNat t2)) := O_s.out.keep (keep_below hbb (by omega))
    replace O_x0 : Hid (OwB w5.heap.size w6.heap.size w8 gx0 nf0 F0) := O_x0.out.keep (keep_below hbb (by omega))
    replace D_w : Hid (Below w.heap.size w w8) := D_w.out.trans (hbb.mono (by omega))
    clear hbb
    have O_x1 : Hid (OwLs w7.heap.size w8.heap.size w8 gx1 nl1 L1) := hmo
    clear hmo
    have q_x0_0 : ∀ W, Below w8.heap.size w8 W → W.cell? ⟨w6.heap.size, 0, none⟩ = some (.int .i64 nodes0) := fun W h => (B_x0.out.old h).cell (j := 0) rfl
    have q_x0_1 : ∀ W, Below w8.heap.size w8 W → W.cell? ⟨w6.heap.size, 1, none⟩ = some (.int .i64 slots0) := fun W h => (B_x0.out.old h).cell (j := 1) rfl
    have q_x0_2 : ∀ W, Below w8.heap.size w8 W → W.cell? ⟨w6.heap.size, 2, none⟩ = some (.slice (some ⟨gx0, 0, none⟩) nf0 nf0) := fun W h => (B_x0.out.old h).cell (j := 2) rfl
    have q_a2_0 : ∀ W, Below w8.heap.size w8 W → W.cell? ⟨w1.heap.size, 0, none⟩ = some (.int .i64 id2) := fun W h => (B_a2.out.old h).cell (j := 0) rfl
    have q_a2_1 : ∀ W, Below w8.heap.size w8 W → W.cell? ⟨w1.heap.size, 1, none⟩ = some (.int .i64 t2) := fun W h => (B_a2.out.old h).cell (j := 1) rfl
    have QN : ∀ W, Below w8.heap.size w8 W → Hid (Rf W (.slice (some ⟨gx0, 0, none⟩) nf0 nf0) nf0 F0 ∧ RdL W (.slice (some ⟨gx1, 0, none⟩) nl1 nl1) nl1 L1) := fun W h => ⟨(O_x0.out.keep (keep_below h (by omega))).rd, (O_x1.out.keep (keep_below h (by omega))).rd⟩
    have hR0 : Below w8.heap.size w8 w8 := Below.refl _ _
    go_wp2_with fail
    go_cut [11] from 37 to 41 (fun p wx => ∃ (kx : Nat) (v : Value) (lo hi : Nat), p = .pointer (some ⟨kx, 0, none⟩) ∧ w8.heap.size ≤ kx ∧ kx < wx.heap.size ∧ w8.heap.size ≤ lo ∧ lo ≤ hi ∧ hi ≤ wx.heap.size ∧ Below w8.heap.size w8 wx ∧ Blk wx kx #[.int .i64 c, v] 53 ∧ OwnQ lo hi wx c v nl1 (slid L1 (fnd L1 id2 nl1).toNat t2) ∧ (kx < lo ∨ hi ≤ kx))
    case first =>
      go_region_held3 (fun W => Below w8.heap.size w8 W) (go_grown) (first
        | (go_at_call 27; refine Calls.mono (toSl_any id2 t2 _) ?_; rintro e wd ⟨rfl, bd⟩; have zwd := bd.size; (try simp at zwd); have hRwd : Below w8.heap.size w8 wd := (by refine box_step ?_ bd (by go_size); go_grown); (first | (have hZ := box_step hZ bd (Nat.le_refl _)) | (have hZ := bd)); obtain ⟨ho1, hf1, hz1⟩ := olds hZ)
        | (go_at_call 28; refine Calls.mono (weakG (iSld_any HCC.out (QN _ (by first | assumption | go_grown)).out.1 (QN _ (by first | assumption | go_grown)).out.2 (by omega) HS1.out (Nat.le_refl _) HB1.out)) ?_; rintro e we ⟨v, lo, hi, rfl, hlo, hlh, hhi, ov, be⟩; obtain ⟨vo, vk, vc, rfl⟩ := OutQ.shape ov.rd; (try simp at hlo); have zwe := be.size; (try simp at zwe); have hRwe : Below w8.heap.size w8 we := (by refine box_step ?_ be (by go_size); go_grown); (first | (have hZ := box_step hZ be (Nat.le_refl _)) | (have hZ := be)); obtain ⟨ho1, hf1, hz1⟩ := olds hZ; have OV : Hid (OwnQ lo hi we c (.slice vo vk vc) nl1 (slid L1 (fnd L1 id2 nl1).toNat t2)) := ov; clear ov))
      all_goals
        go_wp2_with fail
        go_meet
        case rel =>
          refine ⟨_, .slice vo vk vc, lo, hi, rfl, ?_, ?_, ?_, hlh, ?_, ?_, ?_, ?_, ?_⟩
          · omega
          · simp [World.setCell] <;> omega
          · omega
          · simp [World.setCell] <;> omega
          · first | assumption | go_grown
          · first | with_reducible exact Blk.new rfl | with_reducible exact Blk.new (by simp) | exact (Blk.set (cs := #[.int .i64 c, .slice none 0 0]) (Blk.set (cs := #[.int .i64 0, .slice none 0 0]) (newOld hZ) _ _ rfl) _ _ rfl) | exact (Blk.set (cs := #[.int .i64 c, .slice none 0 0]) (Blk.set (cs := #[.int .i64 0, .slice none 0 0]) (Blk.old (Blk.drew (Blk.new rfl)) hZ) _ _ rfl) _ _ rfl)
          · first | exact OV.out.keep (keep_set2 (by omega)) | exact OV.out.keep (keep_below ((Below.refl _ _).alloc (Nat.le_refl _) _) (by omega))
          · omega
    case rest =>
      obtain ⟨kg, vg, log, hig, rfl, hk1g, hk2g, hl1g, hl3g, hl2g, hbb, hN, ov, hdg⟩ := hcut
      obtain ⟨ga, gk, gc, egv⟩ : ∃ ao k cap, vg = .slice ao k cap := OutQ.shape ov.rd
      subst egv
      clear hR0 QN q_x0_0 q_x0_1 q_x0_2 q_a2_0 q_a2_1
      obtain ⟨w9, hv⟩ : ∃ v, v = wc := ⟨_, rfl⟩
      subst hv
      have zw9 : w8.heap.size ≤ w9.heap.size := hbb.size
      replace B_a0 : Hid (Blk w9 w.heap.size #[.int .i64 nodes0, .int .i64 slots0, .slice ao0 nf0 cp0] 24) := B_a0.out.old hbb
      replace B_a2 : Hid (Blk w9 w1.heap.size #[.int .i64 id2, .int .i64 t2] 51) := B_a2.out.old hbb
      replace B_S : Hid (Blk w9 ks #[.int .i64 c, .slice sa sk sc] 53) := B_S.out.old hbb
      replace B_x0 : Hid (Blk w9 w6.heap.size #[.int .i64 nodes0, .int .i64 slots0, .slice (some ⟨gx0, 0, none⟩) nf0 nf0] 37) := B_x0.out.old hbb
      replace O_s : Hid (OutB los his w9 c (.slice sa sk sc) nl1 (slid L1 (fnd L1 id2 nl1).toNat t2)) := O_s.out.keep (keep_below hbb (by omega))
      replace O_x0 : Hid (OwB w5.heap.size w6.heap.size w9 gx0 nf0 F0) := O_x0.out.keep (keep_below hbb (by omega))
      replace O_x1 : Hid (OwLs w7.heap.size w8.heap.size w9 gx1 nl1 L1) := O_x1.out.keep (keep_below hbb (by omega))
      replace D_w : Hid (Below w.heap.size w w9) := D_w.out.trans (hbb.mono (by omega))
      clear hbb
      have B_G : Hid (Blk w9 kg #[.int .i64 c, .slice ga gk gc] 53) := hN
      clear hN
      have O_g : Hid (OwnQ log hig w9 c (.slice ga gk gc) nl1 (slid L1 (fnd L1 id2 nl1).toNat t2)) := ov
      clear ov
      have c_G_0 := B_G.out.cell (j := 0) rfl
      have c_G_1 := B_G.out.cell (j := 1) rfl
      have l_G := B_G.out.lt
      have c_S_0 := B_S.out.cell (j := 0) rfl
      have c_S_1 := B_S.out.cell (j := 1) rfl
      have l_S := B_S.out.lt
      go_wp2_with fail
      refine (eqQ_any O_g.out.rd O_s.out.rd HNL.out).mono ?_
      rintro e w10 ⟨rfl, hbb⟩
      clear c_G_0 c_G_1 l_G c_S_0 c_S_1 l_S
      have zw10 : w9.heap.size ≤ w10.heap.size := hbb.size
      replace B_a0 : Hid (Blk w10 w.heap.size #[.int .i64 nodes0, .int .i64 slots0, .slice ao0 nf0 cp0] 24) := B_a0.out.old hbb
      replace B_a2 : Hid (Blk w10 w1.heap.size #[.int .i64 id2, .int .i64 t2] 51) := B_a2.out.old hbb
      replace B_S : Hid (Blk w10 ks #[.int .i64 c, .slice sa sk sc] 53) := B_S.out.old hbb
      replace B_x0 : Hid (Blk w10 w6.heap.size #[.int .i64 nodes0, .int .i64 slots0, .slice (some ⟨gx0, 0, none⟩) nf0 nf0] 37) := B_x0.out.old hbb
      replace B_G : Hid (Blk w10 kg #[.int .i64 c, .slice ga gk gc] 53) := B_G.out.old hbb
      replace O_s : Hid (OutB los his w10 c (.slice sa sk sc) nl1 (slid L1 (fnd L1 id2 nl1).toNat t2)) := O_s.out.keep (keep_below hbb (by omega))
      replace O_x0 : Hid (OwB w5.heap.size w6.heap.size w10 gx0 nf0 F0) := O_x0.out.keep (keep_below hbb (by omega))
      replace O_x1 : Hid (OwLs w7.heap.size w8.heap.size w10 gx1 nl1 L1) := O_x1.out.keep (keep_below hbb (by omega))
      replace O_g : Hid (OwnQ log hig w10 c (.slice ga gk gc) nl1 (slid L1 (fnd L1 id2 nl1).toNat t2)) := O_g.out.keep (keep_below hbb (by omega))
      replace D_w : Hid (Below w.heap.size w w10) := D_w.out.trans (hbb.mono (by omega))
      clear hbb
      have q_x0_0 : ∀ W, Below w10.heap.size w10 W → W.cell? ⟨w6.heap.size, 0, none⟩ = some (.int .i64 nodes0) := fun W h => (B_x0.out.old h).cell (j := 0) rfl
      have q_x0_1 : ∀ W, Below w10.heap.size w10 W → W.cell? ⟨w6.heap.size, 1, none⟩ = some (.int .i64 slots0) := fun W h => (B_x0.out.old h).cell (j := 1) rfl
      have q_x0_2 : ∀ W, Below w10.heap.size w10 W → W.cell? ⟨w6.heap.size, 2, none⟩ = some (.slice (some ⟨gx0, 0, none⟩) nf0 nf0) := fun W h => (B_x0.out.old h).cell (j := 2) rfl
      have q_a0_0 : ∀ W, Below w10.heap.size w10 W → W.cell? ⟨w.heap.size, 0, none⟩ = some (.int .i64 nodes0) := fun W h => (B_a0.out.old h).cell (j := 0) rfl
      have q_a0_1 : ∀ W, Below w10.heap.size w10 W → W.cell? ⟨w.heap.size, 1, none⟩ = some (.int .i64 slots0) := fun W h => (B_a0.out.old h).cell (j := 1) rfl
      have q_a0_2 : ∀ W, Below w10.heap.size w10 W → W.cell? ⟨w.heap.size, 2, none⟩ = some (.slice ao0 nf0 cp0) := fun W h => (B_a0.out.old h).cell (j := 2) rfl
      have QA : ∀ W, Below w10.heap.size w10 W → Hid (Rf W (.slice ao0 nf0 cp0) nf0 F0) := fun W h => H0.out.later (D_w.out.trans (h.mono (by omega)))
      have QX : ∀ W, Below w10.heap.size w10 W → Hid (OwB w5.heap.size w6.heap.size W gx0 nf0 F0) := fun W h => O_x0.out.keep (keep_below h (by omega))
      go_wp2_with fail
      go_region_held (fun W => Below w10.heap.size w10 W) (go_grown)
        (first | (go_at_call 13; refine Calls.mono (toNet_any (QA _ (by go_grown)).out (by omega)) ?_; rintro e w11 ⟨gqa, rfl, hmo, hb1⟩; have hR1 : Below w10.heap.size w10 w11 := box_step (by go_grown) hb1 (Nat.le_refl _)) | (go_at_call 18; refine Calls.mono (eqNet_any (QX _ (by go_grown)).out hmo (by omega)) ?_; rintro e w12 ⟨rfl, hb2⟩; have hR2 : Below w10.heap.size w10 w12 := box_step hR1 hb2 (Nat.le_refl _)))
      have hbb : Below w10.heap.size w10 w12 := hR2
      clear hR1 hR2 hmo hb1 hb2 QA QX q_x0_0 q_x0_1 q_x0_2 q_a0_0 q_a0_1 q_a0_2
      have zw12 : w10.heap.size ≤ w12.heap.size := hbb.size
      replace B_a0 : Hid (Blk w12 w.heap.size #[.int .i64 nodes0, .int .i64 slots0, .slice ao0 nf0 cp0] 24) := B_a0.out.old hbb
      replace B_a2 : Hid (Blk w12 w1.heap.size #[.int .i64 id2, .int .i64 t2] 51) := B_a2.out.old hbb
      replace B_S : Hid (Blk w12 ks #[.int .i64 c, .slice sa sk sc] 53) := B_S.out.old hbb
      replace B_x0 : Hid (Blk w12 w6.heap.size #[.int .i64 nodes0, .int .i64 slots0, .slice (some ⟨gx0, 0, none⟩) nf0 nf0] 37) := B_x0.out.old hbb
      replace B_G : Hid (Blk w12 kg #[.int .i64 c, .slice ga gk gc] 53) := B_G.out.old hbb
      replace O_s : Hid (OutB los his w12 c (.slice sa sk sc) nl1 (slid L1 (fnd L1 id2 nl1).toNat t2)) := O_s.out.keep (keep_below hbb (by omega))
      replace O_x0 : Hid (OwB w5.heap.size w6.heap.size w12 gx0 nf0 F0) := O_x0.out.keep (keep_below hbb (by omega))
      replace O_x1 : Hid (OwLs w7.heap.size w8.heap.size w12 gx1 nl1 L1) := O_x1.out.keep (keep_below hbb (by omega))
      replace O_g : Hid (OwnQ log hig w12 c (.slice ga gk gc) nl1 (slid L1 (fnd L1 id2 nl1).toNat t2)) := O_g.out.keep (keep_below hbb (by omega))
      replace D_w : Hid (Below w.heap.size w w12) := D_w.out.trans (hbb.mono (by omega))
      clear hbb
      go_wp2_with fail
      refine (toLits_any (H1.out.later D_w.out) HS1.out).mono ?_
      rintro e w13 ⟨gq, rfl, hmo, hbb⟩
      have zw13 : w12.heap.size ≤ w13.heap.size := hbb.size
      replace B_a0 : Hid (Blk w13 w.heap.size #[.int .i64 nodes0, .int .i64 slots0, .slice ao0 nf0 cp0] 24) := B_a0.out.old hbb
      replace B_a2 : Hid (Blk w13 w1.heap.size #[.int .i64 id2, .int .i64 t2] 51) := B_a2.out.old hbb
      replace B_S : Hid (Blk w13 ks #[.int .i64 c, .slice sa sk sc] 53) := B_S.out.old hbb
      replace B_x0 : Hid (Blk w13 w6.heap.size #[.int .i64 nodes0, .int .i64 slots0, .slice (some ⟨gx0, 0, none⟩) nf0 nf0] 37) := B_x0.out.old hbb
      replace B_G : Hid (Blk w13 kg #[.int .i64 c, .slice ga gk gc] 53) := B_G.out.old hbb
      replace O_s : Hid (OutB los his w13 c (.slice sa sk sc) nl1 (slid L1 (fnd L1 id2 nl1).toNat t2)) := O_s.out.keep (keep_below hbb (by omega))
      replace O_x0 : Hid (OwB w5.heap.size w6.heap.size w13 gx0 nf0 F0) := O_x0.out.keep (keep_below hbb (by omega))
      replace O_x1 : Hid (OwLs w7.heap.size w8.heap.size w13 gx1 nl1 L1) := O_x1.out.keep (keep_below hbb (by omega))
      replace O_g : Hid (OwnQ log hig w13 c (.slice ga gk gc) nl1 (slid L1 (fnd L1 id2 nl1).toNat t2)) := O_g.out.keep (keep_below hbb (by omega))
      replace D_w : Hid (Below w.heap.size w w13) := D_w.out.trans (hbb.mono (by omega))
      clear hbb
      have O_q : Hid (OwLs w12.heap.size w13.heap.size w13 gq nl1 L1) := hmo
      clear hmo
      go_wp2_with fail
      refine (eqLits_any O_x1.out.rd O_q.out.rd HS1.out).mono ?_
      rintro e w14 ⟨rfl, hbb⟩
      clear O_q
      have zw14 : w13.heap.size ≤ w14.heap.size := hbb.size
      replace B_a0 : Hid (Blk w14 w.heap.size #[.int .i64 nodes0, .int .i64 slots0, .slice ao0 nf0 cp0] 24) := B_a0.out.old hbb
      replace B_a2 : Hid (Blk w14 w1.heap.size #[.int .i64 id2, .int .i64 t2] 51) := B_a2.out.old hbb
      replace B_S : Hid (Blk w14 ks #[.int .i64 c, .slice sa sk sc] 53) := B_S.out.old hbb
      replace B_x0 : Hid (Blk w14 w6.heap.size #[.int .i64 nodes0, .int .i64 slots0, .slice (some ⟨gx0, 0, none⟩) nf0 nf0] 37) := B_x0.out.old hbb
      replace B_G : Hid (Blk w14 kg #[.int .i64 c, .slice ga gk gc] 53) := B_G.out.old hbb
      replace O_s : Hid (OutB los his w14 c (.slice sa sk sc) nl1 (slid L1 (fnd L1 id2 nl1).toNat t2)) := O_s.out.keep (keep_below hbb (by omega))
      replace O_x0 : Hid (OwB w5.heap.size w6.heap.size w14 gx0 nf0 F0) := O_x0.out.keep (keep_below hbb (by omega))
      replace O_x1 : Hid (OwLs w7.heap.size w8.heap.size w14 gx1 nl1 L1) := O_x1.out.keep (keep_below hbb (by omega))
      replace O_g : Hid (OwnQ log hig w14 c (.slice ga gk gc) nl1 (slid L1 (fnd L1 id2 nl1).toNat t2)) := O_g.out.keep (keep_below hbb (by omega))
      replace D_w : Hid (Below w.heap.size w w14) := D_w.out.trans (hbb.mono (by omega))
      clear hbb
      have c_x0_0 := B_x0.out.cell (j := 0) rfl
      have c_x0_1 := B_x0.out.cell (j := 1) rfl
      have c_x0_2 := B_x0.out.cell (j := 2) rfl
      have l_x0 := B_x0.out.lt
      go_wp2_with fail
      refine (markNet_any 1 O_x0.out (by omega) (by omega) (by omega) (by omega)).mono ?_
      rintro e w15 ⟨rfl, hww⟩
      clear c_x0_0 c_x0_1 c_x0_2 l_x0
      have zw15 : w14.heap.size ≤ w15.heap.size := hww.below.size
      replace B_a0 : Hid (Blk w15 w.heap.size #[.int .i64 nodes0, .int .i64 slots0, .slice ao0 nf0 cp0] 24) := B_a0.out.within hww (by omega)
      replace B_a2 : Hid (Blk w15 w1.heap.size #[.int .i64 id2, .int .i64 t2] 51) := B_a2.out.within hww (by omega)
      replace B_S : Hid (Blk w15 ks #[.int .i64 c, .slice sa sk sc] 53) := B_S.out.within hww (by omega)
      replace B_x0 : Hid (Blk w15 w6.heap.size #[.int .i64 nodes0, .int .i64 slots0, .slice (some ⟨gx0, 0, none⟩) nf0 nf0] 37) := B_x0.out.within hww (by omega)
      replace B_G : Hid (Blk w15 kg #[.int .i64 c, .slice ga gk gc] 53) := B_G.out.within hww (by omega)
      replace O_s : Hid (OutB los his w15 c (.slice sa sk sc) nl1 (slid L1 (fnd L1 id2 nl1).toNat t2)) := O_s.out.keep (keep_apart hww (by omega) (by omega))
      replace O_x1 : Hid (OwLs w7.heap.size w8.heap.size w15 gx1 nl1 L1) := O_x1.out.keep (keep_apart hww (by omega) (by omega))
      replace O_g : Hid (OwnQ log hig w15 c (.slice ga gk gc) nl1 (slid L1 (fnd L1 id2 nl1).toNat t2)) := O_g.out.keep (keep_apart hww (by omega) (by omega))
      replace D_w : Hid (Below w.heap.size w w15) := D_w.out.trans (hww.below.mono (by omega))
      clear hww O_x0
      obtain ⟨k1, hk⟩ : ∃ k : Int, k = mF 1 nf0 := ⟨_, rfl⟩
      have hk1a : 0 ≤ k1 := by rw [hk]; unfold mF; omega
      have hk1b : k1 ≤ 1 + 8000000 := by rw [hk]; unfold mF; omega
      rw [← hk]
      clear hk
      go_wp2_with fail
      refine (markLits_any k1 O_x1.out (by omega) (by omega) HS1.out).mono ?_
      rintro e w16 ⟨rfl, _, hww⟩
      have zw16 : w15.heap.size ≤ w16.heap.size := hww.below.size
      replace B_a0 : Hid (Blk w16 w.heap.size #[.int .i64 nodes0, .int .i64 slots0, .slice ao0 nf0 cp0] 24) := B_a0.out.within hww (by omega)
      replace B_a2 : Hid (Blk w16 w1.heap.size #[.int .i64 id2, .int .i64 t2] 51) := B_a2.out.within hww (by omega)
      replace B_S : Hid (Blk w16 ks #[.int .i64 c, .slice sa sk sc] 53) := B_S.out.within hww (by omega)
      replace B_x0 : Hid (Blk w16 w6.heap.size #[.int .i64 nodes0, .int .i64 slots0, .slice (some ⟨gx0, 0, none⟩) nf0 nf0] 37) := B_x0.out.within hww (by omega)
      replace B_G : Hid (Blk w16 kg #[.int .i64 c, .slice ga gk gc] 53) := B_G.out.within hww (by omega)
      replace O_s : Hid (OutB los his w16 c (.slice sa sk sc) nl1 (slid L1 (fnd L1 id2 nl1).toNat t2)) := O_s.out.keep (keep_apart hww (by omega) (by omega))
      replace O_g : Hid (OwnQ log hig w16 c (.slice ga gk gc) nl1 (slid L1 (fnd L1 id2 nl1).toNat t2)) := O_g.out.keep (keep_apart hww (by omega) (by omega))
      replace D_w : Hid (Below w.heap.size w w16) := D_w.out.trans (hww.below.mono (by omega))
      clear hww O_x1
      obtain ⟨k2, hk⟩ : ∃ k : Int, k = mLs k1 L1 nl1 := ⟨_, rfl⟩
      have hk2a : 0 ≤ k2 := by rw [hk]; have := mLs_lo k1 L1 nl1; have := mLs_hi k1 HS1.out; omega
      have hk2b : k2 ≤ k1 + 8000000 := by rw [hk]; have := mLs_lo k1 L1 nl1; have := mLs_hi k1 HS1.out; omega
      rw [← hk]
      clear hk
      have c_G_0 := B_G.out.cell (j := 0) rfl
      have c_G_1 := B_G.out.cell (j := 1) rfl
      have l_G := B_G.out.lt
      have c_S_0 := B_S.out.cell (j := 0) rfl
      have c_S_1 := B_S.out.cell (j := 1) rfl
      have l_S := B_S.out.lt
      go_wp2_with fail
      refine (eqQ_any O_g.out.rd O_s.out.rd HNL.out).mono ?_
      rintro e w17 ⟨rfl, hbb⟩
      clear c_G_0 c_G_1 l_G c_S_0 c_S_1 l_S
      have zw17 : w16.heap.size ≤ w17.heap.size := hbb.size
      replace B_a0 : Hid (Blk w17 w.heap.size #[.int .i64 nodes0, .int .i64 slots0, .slice ao0 nf0 cp0] 24) := B_a0.out.old hbb
      replace B_a2 : Hid (Blk w17 w1.heap.size #[.int .i64 id2, .int .i64 t2] 51) := B_a2.out.old hbb
      replace B_S : Hid (Blk w17 ks #[.int .i64 c, .slice sa sk sc] 53) := B_S.out.old hbb
      replace B_x0 : Hid (Blk w17 w6.heap.size #[.int .i64 nodes0, .int .i64 slots0, .slice (some ⟨gx0, 0, none⟩) nf0 nf0] 37) := B_x0.out.old hbb
      replace B_G : Hid (Blk w17 kg #[.int .i64 c, .slice ga gk gc] 53) := B_G.out.old hbb
      replace O_s : Hid (OutB los his w17 c (.slice sa sk sc) nl1 (slid L1 (fnd L1 id2 nl1).toNat t2)) := O_s.out.keep (keep_below hbb (by omega))
      replace O_g : Hid (OwnQ log hig w17 c (.slice ga gk gc) nl1 (slid L1 (fnd L1 id2 nl1).toNat t2)) := O_g.out.keep (keep_below hbb (by omega))
      replace D_w : Hid (Below w.heap.size w w17) := D_w.out.trans (hbb.mono (by omega))
      clear hbb
      have c_G_0 := B_G.out.cell (j := 0) rfl
      have c_G_1 := B_G.out.cell (j := 1) rfl
      have l_G := B_G.out.lt
      go_wp2_with fail
      refine (markQ_any O_g.out HNL.out (by omega) (by omega)).mono ?_
      rintro e w18 ⟨r, rfl, hmk, hww⟩
      clear c_G_0 c_G_1 l_G
      have hr0 : 0 ≤ r := hmk.pos
      have zw18 : w17.heap.size ≤ w18.heap.size := hww.below.size
      replace B_a0 : Hid (Blk w18 w.heap.size #[.int .i64 nodes0, .int .i64 slots0, .slice ao0 nf0 cp0] 24) := B_a0.out.within hww (by omega)
      replace B_a2 : Hid (Blk w18 w1.heap.size #[.int .i64 id2, .int .i64 t2] 51) := B_a2.out.within hww (by omega)
      replace B_S : Hid (Blk w18 ks #[.int .i64 c, .slice sa sk sc] 53) := B_S.out.within hww (by omega)
      replace B_x0 : Hid (Blk w18 w6.heap.size #[.int .i64 nodes0, .int .i64 slots0, .slice (some ⟨gx0, 0, none⟩) nf0 nf0] 37) := B_x0.out.within hww (by omega)
      replace B_G : Hid (Blk w18 kg #[.int .i64 c, .slice ga gk gc] 53) := B_G.out.within hww (by omega)
      replace O_s : Hid (OutB los his w18 c (.slice sa sk sc) nl1 (slid L1 (fnd L1 id2 nl1).toNat t2)) := O_s.out.keep (keep_apart hww (by omega) (by omega))
      replace D_w : Hid (Below w.heap.size w w18) := D_w.out.trans (hww.below.mono (by omega))
      replace O_g : Hid (MkdQ log hig w18 c (.slice ga gk gc) nl1 (slid L1 (fnd L1 id2 nl1).toNat t2) r) := hmk
      clear hmk hww
      have c_G_0 := B_G.out.cell (j := 0) rfl
      have c_G_1 := B_G.out.cell (j := 1) rfl
      have l_G := B_G.out.lt
      go_wp2_with fail
      refine (heldQ_any O_g.out HNL.out (by omega)).mono ?_
      rintro e w19 ⟨rfl, hbb⟩
      clear c_G_0 c_G_1 l_G
      have zw19 : w18.heap.size ≤ w19.heap.size := hbb.size
      replace B_a0 : Hid (Blk w19 w.heap.size #[.int .i64 nodes0, .int .i64 slots0, .slice ao0 nf0 cp0] 24) := B_a0.out.old hbb
      replace B_a2 : Hid (Blk w19 w1.heap.size #[.int .i64 id2, .int .i64 t2] 51) := B_a2.out.old hbb
      replace B_S : Hid (Blk w19 ks #[.int .i64 c, .slice sa sk sc] 53) := B_S.out.old hbb
      replace B_x0 : Hid (Blk w19 w6.heap.size #[.int .i64 nodes0, .int .i64 slots0, .slice (some ⟨gx0, 0, none⟩) nf0 nf0] 37) := B_x0.out.old hbb
      replace B_G : Hid (Blk w19 kg #[.int .i64 c, .slice ga gk gc] 53) := B_G.out.old hbb
      replace O_s : Hid (OutB los his w19 c (.slice sa sk sc) nl1 (slid L1 (fnd L1 id2 nl1).toNat t2)) := O_s.out.keep (keep_below hbb (by omega))
      replace O_g : Hid (MkdQ log hig w19 c (.slice ga gk gc) nl1 (slid L1 (fnd L1 id2 nl1).toNat t2) r) := O_g.out.keep (keep_below hbb (by omega))
      replace D_w : Hid (Below w.heap.size w w19) := D_w.out.trans (hbb.mono (by omega))
      clear hbb
      have q_a0_0 : ∀ W, Below w19.heap.size w19 W → W.cell? ⟨w.heap.size, 0, none⟩ = some (.int .i64 nodes0) := fun W h => (B_a0.out.old h).cell (j := 0) rfl
      have q_a0_1 : ∀ W, Below w19.heap.size w19 W → W.cell? ⟨w.heap.size, 1, none⟩ = some (.int .i64 slots0) := fun W h => (B_a0.out.old h).cell (j := 1) rfl
      have q_a0_2 : ∀ W, Below w19.heap.size w19 W → W.cell? ⟨w.heap.size, 2, none⟩ = some (.slice ao0 nf0 cp0) := fun W h => (B_a0.out.old h).cell (j := 2) rfl
      have q_a2_0 : ∀ W, Below w19.heap.size w19 W → W.cell? ⟨w1.heap.size, 0, none⟩ = some (.int .i64 id2) := fun W h => (B_a2.out.old h).cell (j := 0) rfl
      have q_a2_1 : ∀ W, Below w19.heap.size w19 W → W.cell? ⟨w1.heap.size, 1, none⟩ = some (.int .i64 t2) := fun W h => (B_a2.out.old h).cell (j := 1) rfl
      have QN : ∀ W, Below w19.heap.size w19 W → Hid (Rf W (.slice ao0 nf0 cp0) nf0 F0 ∧ RdL W (.slice va1 nl1 vc1) nl1 L1) := fun W h => ⟨H0.out.later (D_w.out.trans (h.mono (by omega))), H1.out.later (D_w.out.trans (h.mono (by omega)))⟩
      have hR0 : Below w19.heap.size w19 w19 := Below.refl _ _
      go_wp2_with fail
      go_cut [15] from 81 to 87 (fun p wx => ∃ (kx : Nat) (v : Value) (lo hi : Nat), p = .pointer (some ⟨kx, 0, none⟩) ∧ w19.heap.size ≤ kx ∧ kx < wx.heap.size ∧ w19.heap.size ≤ lo ∧ lo ≤ hi ∧ hi ≤ wx.heap.size ∧ Below w19.heap.size w19 wx ∧ Blk wx kx #[.int .i64 c, v] 53 ∧ OwnQ lo hi wx c v nl1 (slid L1 (fnd L1 id2 nl1).toNat t2) ∧ (kx < lo ∨ hi ≤ kx))
      case first =>
        go_region_held3 (fun W => Below w19.heap.size w19 W) (go_grown) (first
          | (go_at_call 13; refine Calls.mono (toNet_any (QN _ (by first | assumption | go_grown)).out.1 (by omega)) ?_; rintro e wa ⟨ga, rfl, ha, ba⟩; have zwa := ba.size; (try simp at zwa); have hRwa : Below w19.heap.size w19 wa := (by refine box_step ?_ ba (by go_size); go_grown); (first | (have hZ := box_step hZ ba (Nat.le_refl _)) | (have hZ := ba)); obtain ⟨ho1, hf1, hz1⟩ := olds hZ; have HA : Hid (Rf wa (.slice (some ⟨ga, 0, none⟩) nf0 nf0) nf0 F0) := ha.rd; have kaa : Below wa.heap.size wa wa := Below.refl _ _; clear ha)
          | (go_at_call 14; refine Calls.mono (toLits_any (QN _ (by first | assumption | go_grown)).out.2 HS1.out) ?_; rintro e wb ⟨gb, rfl, hb', bb⟩; have zwb := bb.size; (try simp at zwb); have hRwb : Below w19.heap.size w19 wb := (by refine box_step ?_ bb (by go_size); go_grown); (first | (have hZ := box_step hZ bb (Nat.le_refl _)) | (have hZ := bb)); obtain ⟨ho1, hf1, hz1⟩ := olds hZ; have HB2 : Hid (RdL wb (.slice (some ⟨gb, 0, none⟩) nl1 nl1) nl1 L1) := hb'.rd; have kbb : Below wb.heap.size wb wb := Below.refl _ _; have kab : Below wa.heap.size wa wb := (by refine box_step ?_ bb (by go_size); go_grown); clear hb')
          | (go_at_call 27; refine Calls.mono (toSl_any id2 t2 _) ?_; rintro e wd ⟨rfl, bd⟩; have zwd := bd.size; (try simp at zwd); have hRwd : Below w19.heap.size w19 wd := (by refine box_step ?_ bd (by go_size); go_grown); (first | (have hZ := box_step hZ bd (Nat.le_refl _)) | (have hZ := bd)); obtain ⟨ho1, hf1, hz1⟩ := olds hZ; have kad : Below wa.heap.size wa wd := (by refine box_step ?_ bd (by go_size); go_grown); have kbd : Below wb.heap.size wb wd := (by refine box_step ?_ bd (by go_size); go_grown))
          | (go_at_call 28; refine Calls.mono (weakG (iSld_any HCC.out (HA.out.later (by first | assumption | go_grown)) (HB2.out.later (by first | assumption | go_grown)) (by omega) HS1.out (Nat.le_refl _) HB1.out)) ?_; rintro e we ⟨v, lo, hi, rfl, hlo, hlh, hhi, ov, be⟩; obtain ⟨vo, vk, vc, rfl⟩ := OutQ.shape ov.rd; (try simp at hlo); have zwe := be.size; (try simp at zwe); have hRwe : Below w19.heap.size w19 we := (by refine box_step ?_ be (by go_size); go_grown); (first | (have hZ := box_step hZ be (Nat.le_refl _)) | (have hZ := be)); obtain ⟨ho1, hf1, hz1⟩ := olds hZ; have OV : Hid (OwnQ lo hi we c (.slice vo vk vc) nl1 (slid L1 (fnd L1 id2 nl1).toNat t2)) := ov; clear ov))
        all_goals
          go_wp2_with fail
          go_meet
          case rel =>
            refine ⟨_, .slice vo vk vc, lo, hi, rfl, ?_, ?_, ?_, hlh, ?_, ?_, ?_, ?_, ?_⟩
            · omega
            · simp [World.setCell] <;> omega
            · omega
            · simp [World.setCell] <;> omega
            · first | assumption | go_grown
            · first | with_reducible exact Blk.new rfl | with_reducible exact Blk.new (by simp) | exact (Blk.set (cs := #[.int .i64 c, .slice none 0 0]) (Blk.set (cs := #[.int .i64 0, .slice none 0 0]) (newOld hZ) _ _ rfl) _ _ rfl) | exact (Blk.set (cs := #[.int .i64 c, .slice none 0 0]) (Blk.set (cs := #[.int .i64 0, .slice none 0 0]) (Blk.old (Blk.drew (Blk.new rfl)) hZ) _ _ rfl) _ _ rfl)
            · first | exact OV.out.keep (keep_set2 (by omega)) | exact OV.out.keep (keep_below ((Below.refl _ _).alloc (Nat.le_refl _) _) (by omega))
            · omega
      case rest =>
        obtain ⟨kh, vh, loh, hih, rfl, hk1h, hk2h, hl1h, hl3h, hl2h, hbb, hN, ov, hdh⟩ := hcut
        obtain ⟨ha, hk, hc, ehv⟩ : ∃ ao k cap, vh = .slice ao k cap := OutQ.shape ov.rd
        subst ehv
        clear hR0 QN q_a0_0 q_a0_1 q_a0_2 q_a2_0 q_a2_1
        obtain ⟨w20, hv⟩ : ∃ v, v = wc := ⟨_, rfl⟩
        subst hv
        have zw20 : w19.heap.size ≤ w20.heap.size := hbb.size
        replace B_a0 : Hid (Blk w20 w.heap.size #[.int .i64 nodes0, .int .i64 slots0, .slice ao0 nf0 cp0] 24) := B_a0.out.old hbb
        replace B_a2 : Hid (Blk w20 w1.heap.size #[.int .i64 id2, .int .i64 t2] 51) := B_a2.out.old hbb
        replace B_S : Hid (Blk w20 ks #[.int .i64 c, .slice sa sk sc] 53) := B_S.out.old hbb
        replace B_x0 : Hid (Blk w20 w6.heap.size #[.int .i64 nodes0, .int .i64 slots0, .slice (some ⟨gx0, 0, none⟩) nf0 nf0] 37) := B_x0.out.old hbb
        replace B_G : Hid (Blk w20 kg #[.int .i64 c, .slice ga gk gc] 53) := B_G.out.old hbb
        replace O_s : Hid (OutB los his w20 c (.slice sa sk sc) nl1 (slid L1 (fnd L1 id2 nl1).toNat t2)) := O_s.out.keep (keep_below hbb (by omega))
        replace O_g : Hid (MkdQ log hig w20 c (.slice ga gk gc) nl1 (slid L1 (fnd L1 id2 nl1).toNat t2) r) := O_g.out.keep (keep_below hbb (by omega))
        replace D_w : Hid (Below w.heap.size w w20) := D_w.out.trans (hbb.mono (by omega))
        clear hbb
        have B_H : Hid (Blk w20 kh #[.int .i64 c, .slice ha hk hc] 53) := hN
        clear hN
        have O_h : Hid (OwnQ loh hih w20 c (.slice ha hk hc) nl1 (slid L1 (fnd L1 id2 nl1).toNat t2)) := ov
        clear ov
        have c_H_0 := B_H.out.cell (j := 0) rfl
        have c_H_1 := B_H.out.cell (j := 1) rfl
        have l_H := B_H.out.lt
        have c_S_0 := B_S.out.cell (j := 0) rfl
        have c_S_1 := B_S.out.cell (j := 1) rfl
        have l_S := B_S.out.lt
        go_wp2_with fail
        refine (eqQ_any O_h.out.rd O_s.out.rd HNL.out).mono ?_
        rintro e w21 ⟨rfl, hbb⟩
        clear c_H_0 c_H_1 l_H c_S_0 c_S_1 l_S
        have zw21 : w20.heap.size ≤ w21.heap.size := hbb.size
        replace B_a0 : Hid (Blk w21 w.heap.size #[.int .i64 nodes0, .int .i64 slots0, .slice ao0 nf0 cp0] 24) := B_a0.out.old hbb
        replace B_a2 : Hid (Blk w21 w1.heap.size #[.int .i64 id2, .int .i64 t2] 51) := B_a2.out.old hbb
        replace B_S : Hid (Blk w21 ks #[.int .i64 c, .slice sa sk sc] 53) := B_S.out.old hbb
        replace B_x0 : Hid (Blk w21 w6.heap.size #[.int .i64 nodes0, .int .i64 slots0, .slice (some ⟨gx0, 0, none⟩) nf0 nf0] 37) := B_x0.out.old hbb
        replace B_G : Hid (Blk w21 kg #[.int .i64 c, .slice ga gk gc] 53) := B_G.out.old hbb
        replace B_H : Hid (Blk w21 kh #[.int .i64 c, .slice ha hk hc] 53) := B_H.out.old hbb
        replace O_s : Hid (OutB los his w21 c (.slice sa sk sc) nl1 (slid L1 (fnd L1 id2 nl1).toNat t2)) := O_s.out.keep (keep_below hbb (by omega))
        replace O_g : Hid (MkdQ log hig w21 c (.slice ga gk gc) nl1 (slid L1 (fnd L1 id2 nl1).toNat t2) r) := O_g.out.keep (keep_below hbb (by omega))
        replace O_h : Hid (OwnQ loh hih w21 c (.slice ha hk hc) nl1 (slid L1 (fnd L1 id2 nl1).toNat t2)) := O_h.out.keep (keep_below hbb (by omega))
        replace D_w : Hid (Below w.heap.size w w21) := D_w.out.trans (hbb.mono (by omega))
        clear hbb
        have c_G_0 := B_G.out.cell (j := 0) rfl
        have c_G_1 := B_G.out.cell (j := 1) rfl
        have l_G := B_G.out.lt
        go_wp2_with fail
        refine (heldQ_any O_g.out HNL.out (by omega)).mono ?_
        rintro e w22 ⟨rfl, hbb⟩
        clear c_G_0 c_G_1 l_G
        have zw22 : w21.heap.size ≤ w22.heap.size := hbb.size
        replace B_a0 : Hid (Blk w22 w.heap.size #[.int .i64 nodes0, .int .i64 slots0, .slice ao0 nf0 cp0] 24) := B_a0.out.old hbb
        replace B_a2 : Hid (Blk w22 w1.heap.size #[.int .i64 id2, .int .i64 t2] 51) := B_a2.out.old hbb
        replace B_S : Hid (Blk w22 ks #[.int .i64 c, .slice sa sk sc] 53) := B_S.out.old hbb
        replace B_x0 : Hid (Blk w22 w6.heap.size #[.int .i64 nodes0, .int .i64 slots0, .slice (some ⟨gx0, 0, none⟩) nf0 nf0] 37) := B_x0.out.old hbb
        replace B_G : Hid (Blk w22 kg #[.int .i64 c, .slice ga gk gc] 53) := B_G.out.old hbb
        replace B_H : Hid (Blk w22 kh #[.int .i64 c, .slice ha hk hc] 53) := B_H.out.old hbb
        replace O_s : Hid (OutB los his w22 c (.slice sa sk sc) nl1 (slid L1 (fnd L1 id2 nl1).toNat t2)) := O_s.out.keep (keep_below hbb (by omega))
        replace O_g : Hid (MkdQ log hig w22 c (.slice ga gk gc) nl1 (slid L1 (fnd L1 id2 nl1).toNat t2) r) := O_g.out.keep (keep_below hbb (by omega))
        replace O_h : Hid (OwnQ loh hih w22 c (.slice ha hk hc) nl1 (slid L1 (fnd L1 id2 nl1).toNat t2)) := O_h.out.keep (keep_below hbb (by omega))
        replace D_w : Hid (Below w.heap.size w w22) := D_w.out.trans (hbb.mono (by omega))
        clear hbb
        go_wp2
        go_ret
        exact ⟨rfl, D_w.out⟩

set_option maxRecDepth 100000 in
theorem lifted (os : Os) (started : os.Started) (H : Type) (enc : TypeId × Value → H) :
    ReturnsInHanded {} Try.checked os 4 .any (Rows.fnExactSlideToSpec.pre6 enc Try.prog Try.f4 Rows.fnExactSlideToRow.domain false) (Rows.fnExactSlideToSpec.post enc Try.prog Try.f4 false true false false) := by
  refine returnsInHanded_of_change (C := Try.checked) own started (by kernel_rfl) Try.func4
    (ChangeSpec.witness6 (enc := enc) (C := Try.checked) false ⟨#[], #[.agg #[.int .i64 0, .int .i64 0, .slice none 0 0], .slice none 0 0, .agg #[.int .i64 0, .int .i64 0]], []⟩ 8 (by kernel_rfl) (by kernel_rfl) (by kernel_rfl) (by kernel_rfl)) ?_
  intro W base args ds gs before hval0 hW hcnd _
  have hval : ∀ (j : Nat) t v, Try.f4.params[j]? = some t → args[j]? = some v → Value.okWide Try.prog W .any base t v := hval0
  have hW' := hW
  obtain ⟨p, q, hA0, hV, rfl, hfz, hnd⟩ := hW
  have hA : DataW.TrodAll enc Try.prog W 0 (fun _ => true) true Try.f4.params.toList args.toList ds p := hA0
  rw [Try.params4] at hA hval
  obtain ⟨v0, vs0, d0, ds0, p0, q0, hargs, rfl, rfl, h0, r0⟩ := trodAll_cons hA
  obtain ⟨v1, vs1, d1, ds1, p1, q1, rfl, rfl, rfl, h1, r1⟩ := trodAll_cons r0
  obtain ⟨v2, vs2, d2, ds2, p2, q2, rfl, rfl, rfl, h2, r2⟩ := trodAll_cons r1
  obtain ⟨rfl, rfl, rfl⟩ := trodAll_nil r2
  obtain rfl : args = #[v0, v1, v2] := by cases args; simp_all
  obtain ⟨rfl, rfl⟩ := trodVars_none hV
  have k0 := h0
  have lt0 : ∀ x ∈ p0, x.block < W.heap.size := by obtain ⟨m, hm⟩ := k0; exact DataW.trod_lt m _ _ _ hm
  obtain ⟨nodes0, slots0, ao0, nf0, cp0, F0, rfl, R0, nb0, wl00, wl10, wl20, wl30⟩ := open_net (hval 0 24 v0 rfl rfl) h0
  have k1 := h1
  have lt1 : ∀ x ∈ p1, x.block < W.heap.size := by obtain ⟨m, hm⟩ := k1; exact DataW.trod_lt m _ _ _ hm
  obtain ⟨nl1, L1, R1, nb1, lb1⟩ := open_lits (hval 1 25 v1 rfl rfl) h1
  have k2 := h2
  have lt2 : ∀ x ∈ p2, x.block < W.heap.size := by obtain ⟨m, hm⟩ := k2; exact DataW.trod_lt m _ _ _ hm
  obtain ⟨id2, t2, rfl⟩ := open_slide (hval 2 51 v2 rfl rfl) h2
  clear hA0 hval0
  refine (walk R0 nb0 wl00 wl10 wl20 wl30 R1 nb1 lb1 id2 t2).mono fun e W' ⟨he, bel⟩ => ?_
  subst he
  exact ⟨_, rfl, _, _, _, [], _, [], hW', trodAll_mk1 (shut_bool Try.underlying4 _), (trodAll_cons_mk (Below.trod laidOut (by kernel_rfl) (of_decide_eq_true (by kernel_rfl)) k0 bel lt0) (trodAll_cons_mk (Below.trod laidOut (by kernel_rfl) (of_decide_eq_true (by kernel_rfl)) k1 bel lt1) (trodAll_cons_mk (Below.trod laidOut (by kernel_rfl) (of_decide_eq_true (by kernel_rfl)) k2 bel lt2) trodAll_mk0))), rfl, bel.frame _, fun h => by cases h⟩

theorem over : Rows.fnExactSlideToRow.holds Try.pinned (OpenSpec.ofChange Rows.fnExactSlideToSpec) :=
  OpenClaim.holds_of_wide 4 Try.f4 rfl rfl rfl rfl rfl rfl rfl ⟨rfl, rfl, rfl, rfl, rfl⟩ rfl rfl rfl rfl rfl (by kernel_rfl) Try.func4 (by kernel_rfl)
    (of_decide_eq_true (by kernel_rfl)) (by unfold Func.isWrapper; first | (rw [if_pos (by decide +kernel)]; kernel_rfl) | (rw [if_neg (by decide +kernel)]; exact ⟨rfl, rfl⟩))
    (fun os started H enc _ => lifted os started H enc)
end Go.Proofs.Ytinfbbbgfkaioaa.LawSlideTo
namespace Go.Proofs.Ytinfbbbgfkaioaa
theorem slideTo_holds : Rows.FnExactSlideToSaid := LawSlideTo.over
#print axioms slideTo_holds
end Go.Proofs.Ytinfbbbgfkaioaa
