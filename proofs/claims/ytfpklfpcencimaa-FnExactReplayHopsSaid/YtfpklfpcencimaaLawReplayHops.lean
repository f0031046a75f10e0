/- At every argument the program's ReplayHops answers as the specification, where the law's own bound on the sizes does not answer first; what it answers owns its memory; nothing that was there is changed. -/
import Derived.Test.YtfpklfpcencimaaIr
import Derived.Test.YtfpklfpcencimaaSx
import Derived.Test.YtfpklfpcencimaaOh
import Derived.Test.YtfpklfpcencimaaOn
import Derived.Test.YtfpklfpcencimaaRw
import Derived.Handy
import Derived.Deep.RegionHeld3
import Derived.Deep.DeepCutAuto
namespace Go.Proofs.Ytfpklfpcencimaa.LawReplayHops
open Go.ChangeShapes Go.WideShapes Go.ChangeAt Go.RowKit Go.Joins
set_option linter.unusedVariables false

theorem toHops_ex {w : World} {v : Value} {n : Nat} {F : Nat → Fb} (h : Rf w v n F) (hn : n ≤ 1048576) :
    Calls Try.prog 17 #[v] w fun e w' => ∃ g, e = .returned (.slice (some ⟨g, 0, none⟩) n n) ∧ Rf w' (.slice (some ⟨g, 0, none⟩) n n) n F ∧ Below w.heap.size w w' :=
  (toHops_any h hn).mono fun e w' ⟨e1, h1, h2⟩ => ⟨_, e1, h1.rd, h2⟩
theorem rlist_few {nodes slots fr tt : Int} {nf n : Nat} {F H : Nat → Fb} (h : rcode nodes slots nf F fr tt n H = 0) : (rlist nf F fr n H).length ≤ n := by
  by_cases he : Nt.efault nodes slots nf F fr tt = 0
  · obtain hr | ⟨⟨ns, ps⟩, hr⟩ : rps nf F fr H n = none ∨ ∃ x, rps nf F fr H n = some x := by cases rps nf F fr H n <;> simp
    · rw [rcode_bad he hr] at h; omega
    · rw [rlist_ok hr]; exact (rps_way (Nt.nf_good (Nt.ef_good he).1) hr).few
  · rw [rcode_ef he] at h; exact absurd h he
theorem weakI {P : Program} {f : Nat} {args : Array Value} {w : World} {c : Int} {xs : List Int} (h : Calls P f args w fun e w' => ∃ v, e = .returned (.agg #[.int .i64 c, v]) ∧ OwnI w.heap.size w'.heap.size w' c v xs ∧ Below w.heap.size w w') :
    Calls P f args w fun e w' => ∃ v lo hi, e = .returned (.agg #[.int .i64 c, v]) ∧ w.heap.size ≤ lo ∧ lo ≤ hi ∧ hi ≤ w'.heap.size ∧ OwnI lo hi w' c v xs ∧ Below w.heap.size w w' := by
  refine h.mono ?_
  rintro e w' ⟨v, rfl, h1, h2⟩
  exact ⟨v, _, _, rfl, Nat.le_refl _, h2.size, Nat.le_refl _, h1, h2⟩
theorem keep_set2 {W : World} {lo hi b i j : Nat} {u v : Value} (h : b < lo ∨ hi ≤ b) : Keep lo hi W ((W.setCell ⟨b, i, none⟩ u).setCell ⟨b, j, none⟩ v) := fun k h1 h2 => by
  rw [Below.heap_setCell _ _ _ _ (by show k ≠ b; omega), Below.heap_setCell _ _ _ _ (by show k ≠ b; omega)]
set_option maxHeartbeats 8000000 in
set_option maxRecDepth 20000 in
theorem walk {w : World} {nodes0 slots0 : Int} {ao0 : Option Addr} {nf0 cp0 : Nat} {F0 : Nat → Fb} (hf0 : Rf w (.slice ao0 nf0 cp0) nf0 F0) (nb0 : nf0 ≤ 9223372036854775807) (wl00 : -9223372036854775808 ≤ nodes0) (wl10 : nodes0 ≤ 9223372036854775807) (wl20 : -9223372036854775808 ≤ slots0) (wl30 : slots0 ≤ 9223372036854775807) (a0 a1 a2 a3 a4 : Int) {v2 : Value} {n2 : Nat} {F2 : Nat → Fb} (h2 : Rf w v2 n2 F2) (nb2 : n2 ≤ 9223372036854775807) :
    Calls Try.prog 4 #[.agg #[.int .i64 nodes0, .int .i64 slots0, .slice ao0 nf0 cp0], .agg #[.int .i64 a0, .int .i64 a1, .int .i64 a2, .int .i64 a3, .int .i64 a4], v2] w fun e w' => e = .returned (.bool true) ∧ Below w.heap.size w w' := by
  have H0 : Hid (Rf w (.slice ao0 nf0 cp0) nf0 F0) := hf0
  clear hf0
  obtain ⟨va2, vc2, ev2⟩ : ∃ ao cap, v2 = .slice ao n2 cap := by rcases h2 with ⟨ao, cap, rfl, rfl⟩ | ⟨b, off, cap, rfl, _⟩ <;> exact ⟨_, _, rfl⟩
  subst ev2
  have H2 : Hid (Rf w (.slice va2 n2 vc2) n2 F2) := h2
  clear h2
  have D_w : Hid (Below w.heap.size w w) := Below.refl _ _
  have zw : w.heap.size ≤ w.heap.size := Nat.le_refl _
  obtain ⟨c, hcc⟩ : ∃ c, c = rcode nodes0 slots0 nf0 F0 a1 a2 n2 F2 := ⟨_, rfl⟩
  have HCC : Hid (c = rcode nodes0 slots0 nf0 F0 a1 a2 n2 F2) := hcc
  have HNM : Hid (c = 0 → (rlist nf0 F0 a1 n2 F2).length ≤ n2) := fun h => rlist_few (HCC.out ▸ h)
  clear hcc
  go_enter Try.func4, Try.ntmps4
  go_wp2_with fail
  obtain ⟨w1, hwdw1⟩ : ∃ W, W = w.alloc (.cells #[.int .i64 nodes0, .int .i64 slots0, .slice ao0 nf0 cp0] 24) := ⟨_, rfl⟩
  have B_a0 : Hid (Blk w1 w.heap.size #[.int .i64 nodes0, .int .i64 slots0, .slice ao0 nf0 cp0] 24) := by rw [hwdw1]; exact Blk.new rfl
  have hbb : Below w.heap.size w w1 := by rw [hwdw1]; exact (Below.refl _ _).alloc (Nat.le_refl _) _
  have yw1 : w.heap.size + 1 = w1.heap.size := by rw [hwdw1]; simp
  have zw1 : w.heap.size ≤ w1.heap.size := hbb.size
  replace D_w : Hid (Below w.heap.size w w1) := D_w.out.trans (hbb.mono (by omega))
  clear hbb
  obtain ⟨w2, hwdw2⟩ : ∃ W, W = w1.alloc (.cells #[.int .i64 a0, .int .i64 a1, .int .i64 a2, .int .i64 a3, .int .i64 a4] 40) := ⟨_, rfl⟩
  have B_a1 : Hid (Blk w2 w1.heap.size #[.int .i64 a0, .int .i64 a1, .int .i64 a2, .int .i64 a3, .int .i64 a4] 40) := by rw [hwdw2]; exact Blk.new rfl
  have hbb : Below w1.heap.size w1 w2 := by rw [hwdw2]; exact (Below.refl _ _).alloc (Nat.le_refl _) _
  have yw2 : w1.heap.size + 1 = w2.heap.size := by rw [hwdw2]; simp
  have zw2 : w1.heap.size ≤ w2.heap.size := hbb.size
  replace B_a0 : Hid (Blk w2 w.heap.size #[.int .i64 nodes0, .int .i64 slots0, .slice ao0 nf0 cp0] 24) := B_a0.out.old hbb
  replace D_w : Hid (Below w.heap.size w w2) := D_w.out.trans (hbb.mono (by omega))
  clear hbb
  first | (rw [yw1, ← hwdw1, ← hwdw2]) | (rw [← hwdw1, ← hwdw2, yw1]) | (rw [← hwdw1, yw1, ← hwdw2]) | (rw [← hwdw1, ← hwdw2])
  clear hwdw1 hwdw2
  refine (szNet_any _ _ _ _ _ 1048576 _ (by omega) (by omega) nb0).mono ?_
  rintro e w3 ⟨rfl, hbb⟩
  have zw3 : w2.heap.size ≤ w3.heap.size := hbb.size
  replace B_a0 : Hid (Blk w3 w.heap.size #[.int .i64 nodes0, .int .i64 slots0, .slice ao0 nf0 cp0] 24) := B_a0.out.old hbb
  replace B_a1 : Hid (Blk w3 w1.heap.size #[.int .i64 a0, .int .i64 a1, .int .i64 a2, .int .i64 a3, .int .i64 a4] 40) := B_a1.out.old hbb
  replace D_w : Hid (Below w.heap.size w w3) := D_w.out.trans (hbb.mono (by omega))
  clear hbb
  obtain ⟨left0, hleft0⟩ : ∃ l, l = szN 1048576 nf0 := ⟨_, rfl⟩
  rw [← hleft0]
  by_cases hr0 : left0 < 0
  · go_wp2
    go_ret
    exact ⟨rfl, D_w.out⟩
  have hs0 := szN_ok (hleft0 ▸ hr0)
  have hs0b : left0 ≤ 1048576 := by rw [hleft0]; exact szN_le _ _ (by omega)
  clear hleft0
  have c_a0_0 := B_a0.out.cell (j := 0) rfl
  have c_a0_1 := B_a0.out.cell (j := 1) rfl
  have c_a0_2 := B_a0.out.cell (j := 2) rfl
  have l_a0 := B_a0.out.lt
  go_wp2_with fail
  refine (szHp_any _ _ _ left0 _ (by omega) (by omega) nb2).mono ?_
  rintro e wq2 ⟨rfl, ewq⟩
  obtain rfl := ewq
  clear c_a0_0 c_a0_1 c_a0_2 l_a0
  obtain ⟨left1, hleft1⟩ : ∃ l, l = (if left0 - (n2 : Int) < 0 then -1 else left0 - (n2 : Int)) := ⟨_, rfl⟩
  rw [← hleft1]
  by_cases hr2 : left1 < 0
  · clear hleft1
    go_wp2
    go_ret
    exact ⟨rfl, D_w.out⟩
  have hs2 : left1 = left0 - (n2 : Int) := by split at hleft1 <;> omega
  clear hleft1
  have HNL : Hid (c = 0 → (rlist nf0 F0 a1 n2 F2).length ≤ 1048576) := fun h => Nat.le_trans (HNM.out h) (by omega)
  have q_a0_0 : ∀ W, Below w3.heap.size w3 W → W.cell? ⟨w.heap.size, 0, none⟩ = some (.int .i64 nodes0) := fun W h => (B_a0.out.old h).cell (j := 0) rfl
  have q_a0_1 : ∀ W, Below w3.heap.size w3 W → W.cell? ⟨w.heap.size, 1, none⟩ = some (.int .i64 slots0) := fun W h => (B_a0.out.old h).cell (j := 1) rfl
  have q_a0_2 : ∀ W, Below w3.heap.size w3 W → W.cell? ⟨w.heap.size, 2, none⟩ = some (.slice ao0 nf0 cp0) := fun W h => (B_a0.out.old h).cell (j := 2) rfl
  have q_a1_0 : ∀ W, Below w3.heap.size w3 W → W.cell? ⟨w1.heap.size, 0, none⟩ = some (.int .i64 a0) := fun W h => (B_a1.out.old h).cell (j := 0) rfl
  have q_a1_1 : ∀ W, Below w3.heap.size w3 W → W.cell? ⟨w1.heap.size, 1, none⟩ = some (.int .i64 a1) := fun W h => (B_a1.out.old h).cell (j := 1) rfl
  have q_a1_2 : ∀ W, Below w3.heap.size w3 W → W.cell? ⟨w1.heap.size, 2, none⟩ = some (.int .i64 a2) := fun W h => (B_a1.out.old h).cell (j := 2) rfl
  have q_a1_3 : ∀ W, Below w3.heap.size w3 W → W.cell? ⟨w1.heap.size, 3, none⟩ = some (.int .i64 a3) := fun W h => (B_a1.out.old h).cell (j := 3) rfl
  have q_a1_4 : ∀ W, Below w3.heap.size w3 W → W.cell? ⟨w1.heap.size, 4, none⟩ = some (.int .i64 a4) := fun W h => (B_a1.out.old h).cell (j := 4) rfl
  have QN : ∀ W, Below w3.heap.size w3 W → Hid (Rf W (.slice ao0 nf0 cp0) nf0 F0 ∧ Rf W (.slice va2 n2 vc2) n2 F2) := fun W h => ⟨H0.out.later (D_w.out.trans (h.mono (by omega))), H2.out.later (D_w.out.trans (h.mono (by omega)))⟩
  have hR0 : Below w3.heap.size w3 w3 := Below.refl _ _
  go_wp2_with fail
  go_cut [8] from 26 to 32 (fun p wx => ∃ (kx : Nat) (v : Value) (lo hi : Nat), p = .pointer (some ⟨kx, 0, none⟩) ∧ w3.heap.size ≤ kx ∧ kx < wx.heap.size ∧ w3.heap.size ≤ lo ∧ lo ≤ hi ∧ hi ≤ wx.heap.size ∧ Below w3.heap.size w3 wx ∧ Blk wx kx #[.int .i64 c, v] 45 ∧ OwnI lo hi wx c v (rlist nf0 F0 a1 n2 F2) ∧ (kx < lo ∨ hi ≤ kx))
  case first =>
    go_region_held3 (fun W => Below w3.heap.size w3 W) (go_grown) (first
      | (go_at_call 7; refine Calls.mono (toNet_any (QN _ (by first | assumption | go_grown)).out.1 (by omega)) ?_; rintro e wa ⟨ga, rfl, ha, ba⟩; have zwa := ba.size; (try simp at zwa); have hRwa : Below w3.heap.size w3 wa := (by refine box_step ?_ ba (by go_size); go_grown); (first | (have hZ := box_step hZ ba (Nat.le_refl _)) | (have hZ := ba)); obtain ⟨ho1, hf1, hz1⟩ := olds hZ; have HA : Hid (Rf wa (.slice (some ⟨ga, 0, none⟩) nf0 nf0) nf0 F0) := ha.rd; have kaa : Below wa.heap.size wa wa := Below.refl _ _; clear ha)
      | (go_at_call 16; refine Calls.mono (toNeed_any a0 a1 a2 a3 a4 _) ?_; rintro e wd ⟨rfl, bd⟩; have zwd := bd.size; (try simp at zwd); have hRwd : Below w3.heap.size w3 wd := (by refine box_step ?_ bd (by go_size); go_grown); (first | (have hZ := box_step hZ bd (Nat.le_refl _)) | (have hZ := bd)); obtain ⟨ho1, hf1, hz1⟩ := olds hZ; have kad : Below wa.heap.size wa wd := (by refine box_step ?_ bd (by go_size); go_grown))
      | (go_at_call 17; refine Calls.mono (toHops_ex (QN _ (by first | assumption | go_grown)).out.2 (by omega)) ?_; rintro e wb ⟨gb, rfl, hb', bb⟩; have zwb := bb.size; (try simp at zwb); have hRwb : Below w3.heap.size w3 wb := (by refine box_step ?_ bb (by go_size); go_grown); (first | (have hZ := box_step hZ bb (Nat.le_refl _)) | (have hZ := bb)); obtain ⟨ho1, hf1, hz1⟩ := olds hZ; have HB2 : Hid (Rf wb (.slice (some ⟨gb, 0, none⟩) n2 n2) n2 F2) := hb'; have kbb : Below wb.heap.size wb wb := Below.refl _ _; have kab : Below wa.heap.size wa wb := (by refine box_step ?_ bb (by go_size); go_grown); clear hb')
      | (go_at_call 15; refine Calls.mono (weakI (sRep_any HCC.out (HA.out.later (by first | assumption | go_grown)) (HB2.out.later (by first | assumption | go_grown)) (by omega) (by omega))) ?_; rintro e we ⟨v, lo, hi, rfl, hlo, hlh, hhi, ov, be⟩; obtain ⟨vo, vk, vc, rfl⟩ := OutI.shape ov.rd; (try simp at hlo); have zwe := be.size; (try simp at zwe); have hRwe : Below w3.heap.size w3 we := (by refine box_step ?_ be (by go_size); go_grown); (first | (have hZ := box_step hZ be (Nat.le_refl _)) | (have hZ := be)); obtain ⟨ho1, hf1, hz1⟩ := olds hZ; have OV : Hid (OwnI lo hi we c (.slice vo vk vc) (rlist nf0 F0 a1 n2 F2)) := ov; clear ov))
    all_goals
      go_wp2_with fail
      go_meet
      case rel =>
        refine ⟨_, .slice vo vk vc, lo, hi, rfl, ?_, ?_, ?_, hlh, ?_, ?_, ?_, ?_, ?_⟩
        · omega
        · simp [World.setCell] <;> omega
        · omega
        · simp [World.setCell] <;> omega
        · first | assumption | go_grown
        · first | with_reducible exact Blk.new rfl | with_reducible exact Blk.new (by simp) | exact (Blk.set (cs := #[.int .i64 c, .slice none 0 0]) (Blk.set (cs := #[.int .i64 0, .slice none 0 0]) (newOld hZ) _ _ rfl) _ _ rfl) | exact (Blk.set (cs := #[.int .i64 c, .slice none 0 0]) (Blk.set (cs := #[.int .i64 0, .slice none 0 0]) (Blk.old (Blk.drew (Blk.new rfl)) hZ) _ _ rfl) _ _ rfl)
        · first | exact OV.out.keep (keep_set2 (by omega)) | exact OV.out.keep (keep_below ((Below.refl _ _).alloc (Nat.le_refl _) _) (by omega))
        · omega
  case rest =>
    obtain ⟨ks, vs, los, his, rfl, hk1s, hk2s, hl1s, hl3s, hl2s, hbb, hN, ov, hds⟩ := hcut
    obtain ⟨sa, sk, sc, esv⟩ : ∃ ao k cap, vs = .slice ao k cap := OutI.shape ov.rd
    subst esv
    clear hR0 QN q_a0_0 q_a0_1 q_a0_2 q_a1_0 q_a1_1 q_a1_2 q_a1_3 q_a1_4
    obtain ⟨w4, hv⟩ : ∃ v, v = wc := ⟨_, rfl⟩
    subst hv
    have zw4 : w3.heap.size ≤ w4.heap.size := hbb.size
    replace B_a0 : Hid (Blk w4 w.heap.size #[.int .i64 nodes0, .int .i64 slots0, .slice ao0 nf0 cp0] 24) := B_a0.out.old hbb
    replace B_a1 : Hid (Blk w4 w1.heap.size #[.int .i64 a0, .int .i64 a1, .int .i64 a2, .int .i64 a3, .int .i64 a4] 40) := B_a1.out.old hbb
    replace D_w : Hid (Below w.heap.size w w4) := D_w.out.trans (hbb.mono (by omega))
    clear hbb
    have B_S : Hid (Blk w4 ks #[.int .i64 c, .slice sa sk sc] 45) := hN
    clear hN
    have O_s : Hid (OwnI los his w4 c (.slice sa sk sc) (rlist nf0 F0 a1 n2 F2)) := ov
    clear ov
    have c_a0_0 := B_a0.out.cell (j := 0) rfl
    have c_a0_1 := B_a0.out.cell (j := 1) rfl
    have c_a0_2 := B_a0.out.cell (j := 2) rfl
    have l_a0 := B_a0.out.lt
    go_wp2_with fail
    refine (toNet_any (H0.out.later D_w.out) (by omega)).mono ?_
    rintro e w5 ⟨gx0, rfl, hmo, hbb⟩
    clear c_a0_0 c_a0_1 c_a0_2 l_a0
    have zw5 : w4.heap.size ≤ w5.heap.size := hbb.size
    replace B_a0 : Hid (Blk w5 w.heap.size #[.int .i64 nodes0, .int .i64 slots0, .slice ao0 nf0 cp0] 24) := B_a0.out.old hbb
    replace B_a1 : Hid (Blk w5 w1.heap.size #[.int .i64 a0, .int .i64 a1, .int .i64 a2, .int .i64 a3, .int .i64 a4] 40) := B_a1.out.old hbb
    replace B_S : Hid (Blk w5 ks #[.int .i64 c, .slice sa sk sc] 45) := B_S.out.old hbb
    replace O_s : Hid (OwnI los his w5 c (.slice sa sk sc) (rlist nf0 F0 a1 n2 F2)) := O_s.out.keep (keep_below hbb (by omega))
    replace D_w : Hid (Below w.heap.size w w5) := D_w.out.trans (hbb.mono (by omega))
    clear hbb
    have O_x0 : Hid (OwB w4.heap.size w5.heap.size w5 gx0 nf0 F0) := hmo
    clear hmo
    go_wp2_with fail
    obtain ⟨w6, hwd⟩ : ∃ W, W = w5.alloc (.cells #[.int .i64 nodes0, .int .i64 slots0, .slice (some ⟨gx0, 0, none⟩) nf0 nf0] 32) := ⟨_, rfl⟩
    have NB : Hid (Blk w6 w5.heap.size #[.int .i64 nodes0, .int .i64 slots0, .slice (some ⟨gx0, 0, none⟩) nf0 nf0] 32) := by rw [hwd]; exact Blk.new rfl
    have hbb : Below w5.heap.size w5 w6 := by rw [hwd]; exact (Below.refl _ _).alloc (Nat.le_refl _) _
    have yw6 : w5.heap.size + 1 ≤ w6.heap.size := by rw [hwd]; simp
    rw [← hwd]
    clear hwd
    have zw6 : w5.heap.size ≤ w6.heap.size := hbb.size
    replace B_a0 : Hid (Blk w6 w.heap.size #[.int .i64 nodes0, .int .i64 slots0, .slice ao0 nf0 cp0] 24) := B_a0.out.old hbb
    replace B_a1 : Hid (Blk w6 w1.heap.size #[.int .i64 a0, .int .i64 a1, .int .i64 a2, .int .i64 a3, .int .i64 a4] 40) := B_a1.out.old hbb
    replace B_S : Hid (Blk w6 ks #[.int .i64 c, .slice sa sk sc] 45) := B_S.out.old hbb
    replace O_s : Hid (OwnI los his w6 c (.slice sa sk sc) (rlist nf0 F0 a1 n2 F2)) := O_s.out.keep (keep_below hbb (by omega))
    replace O_x0 : Hid (OwB w4.heap.size w5.heap.size w6 gx0 nf0 F0) := O_x0.out.keep (keep_below hbb (by omega))
    replace D_w : Hid (Below w.heap.size w w6) := D_w.out.trans (hbb.mono (by omega))
    clear hbb
    have B_x0 := NB
    clear NB
    refine (toHops_any (H2.out.later D_w.out) (by omega)).mono ?_
    rintro e w7 ⟨rfl, hmo, hbb⟩
    have zw7 : w6.heap.size ≤ w7.heap.size := hbb.size
    replace B_a0 : Hid (Blk w7 w.heap.size #[.int .i64 nodes0, .int .i64 slots0, .slice ao0 nf0 cp0] 24) := B_a0.out.old hbb
    replace B_a1 : Hid (Blk w7 w1.heap.size #[.int .i64 a0, .int .i64 a1, .int .i64 a2, .int .i64 a3, .int .i64 a4] 40) := B_a1.out.old hbb
    replace B_S : Hid (Blk w7 ks #[.int .i64 c, .slice sa sk sc] 45) := B_S.out.old hbb
    replace B_x0 : Hid (Blk w7 w5.heap.size #[.int .i64 nodes0, .int .i64 slots0, .slice (some ⟨gx0, 0, none⟩) nf0 nf0] 32) := B_x0.out.old hbb
    replace O_s : Hid (OwnI los his w7 c (.slice sa sk sc) (rlist nf0 F0 a1 n2 F2)) := O_s.out.keep (keep_below hbb (by omega))
    replace O_x0 : Hid (OwB w4.heap.size w5.heap.size w7 gx0 nf0 F0) := O_x0.out.keep (keep_below hbb (by omega))
    replace D_w : Hid (Below w.heap.size w w7) := D_w.out.trans (hbb.mono (by omega))
    clear hbb
    have O_x2 : Hid (OwH w6.heap.size w7.heap.size w7 w6.heap.size n2 F2) := hmo
    clear hmo
    have q_x0_0 : ∀ W, Below w7.heap.size w7 W → W.cell? ⟨w5.heap.size, 0, none⟩ = some (.int .i64 nodes0) := fun W h => (B_x0.out.old h).cell (j := 0) rfl
    have q_x0_1 : ∀ W, Below w7.heap.size w7 W → W.cell? ⟨w5.heap.size, 1, none⟩ = some (.int .i64 slots0) := fun W h => (B_x0.out.old h).cell (j := 1) rfl
    have q_x0_2 : ∀ W, Below w7.heap.size w7 W → W.cell? ⟨w5.heap.size, 2, none⟩ = some (.slice (some ⟨gx0, 0, none⟩) nf0 nf0) := fun W h => (B_x0.out.old h).cell (j := 2) rfl
    have q_a1_0 : ∀ W, Below w7.heap.size w7 W → W.cell? ⟨w1.heap.size, 0, none⟩ = some (.int .i64 a0) := fun W h => (B_a1.out.old h).cell (j := 0) rfl
    have q_a1_1 : ∀ W, Below w7.heap.size w7 W → W.cell? ⟨w1.heap.size, 1, none⟩ = some (.int .i64 a1) := fun W h => (B_a1.out.old h).cell (j := 1) rfl
    have q_a1_2 : ∀ W, Below w7.heap.size w7 W → W.cell? ⟨w1.heap.size, 2, none⟩ = some (.int .i64 a2) := fun W h => (B_a1.out.old h).cell (j := 2) rfl
    have q_a1_3 : ∀ W, Below w7.heap.size w7 W → W.cell? ⟨w1.heap.size, 3, none⟩ = some (.int .i64 a3) := fun W h => (B_a1.out.old h).cell (j := 3) rfl
    have q_a1_4 : ∀ W, Below w7.heap.size w7 W → W.cell? ⟨w1.heap.size, 4, none⟩ = some (.int .i64 a4) := fun W h => (B_a1.out.old h).cell (j := 4) rfl
    have QN : ∀ W, Below w7.heap.size w7 W → Hid (Rf W (.slice (some ⟨gx0, 0, none⟩) nf0 nf0) nf0 F0 ∧ Rf W (.slice (some ⟨w6.heap.size, 0, none⟩) n2 n2) n2 F2) := fun W h => ⟨(O_x0.out.keep (keep_below h (by omega))).rd, (O_x2.out.keep (keep_below h (by omega))).rd⟩
    have hR0 : Below w7.heap.size w7 w7 := Below.refl _ _
    go_wp2_with fail
    go_cut [11] from 37 to 41 (fun p wx => ∃ (kx : Nat) (v : Value) (lo hi : Nat), p = .pointer (some ⟨kx, 0, none⟩) ∧ w7.heap.size ≤ kx ∧ kx < wx.heap.size ∧ w7.heap.size ≤ lo ∧ lo ≤ hi ∧ hi ≤ wx.heap.size ∧ Below w7.heap.size w7 wx ∧ Blk wx kx #[.int .i64 c, v] 45 ∧ OwnI lo hi wx c v (rlist nf0 F0 a1 n2 F2) ∧ (kx < lo ∨ hi ≤ kx))
    case first =>
      go_region_held3 (fun W => Below w7.heap.size w7 W) (go_grown) (first
        | (go_at_call 16; refine Calls.mono (toNeed_any a0 a1 a2 a3 a4 _) ?_; rintro e wd ⟨rfl, bd⟩; have zwd := bd.size; (try simp at zwd); have hRwd : Below w7.heap.size w7 wd := (by refine box_step ?_ bd (by go_size); go_grown); (first | (have hZ := box_step hZ bd (Nat.le_refl _)) | (have hZ := bd)); obtain ⟨ho1, hf1, hz1⟩ := olds hZ)
        | (go_at_call 18; refine Calls.mono (weakI (iRep_any HCC.out (QN _ (by first | assumption | go_grown)).out.1 (QN _ (by first | assumption | go_grown)).out.2 (Nat.le_refl _) (by omega) (by omega))) ?_; rintro e we ⟨v, lo, hi, rfl, hlo, hlh, hhi, ov, be⟩; obtain ⟨vo, vk, vc, rfl⟩ := OutI.shape ov.rd; (try simp at hlo); have zwe := be.size; (try simp at zwe); have hRwe : Below w7.heap.size w7 we := (by refine box_step ?_ be (by go_size); go_grown); (first | (have hZ := box_step hZ be (Nat.le_refl _)) | (have hZ := be)); obtain ⟨ho1, hf1, hz1⟩ := olds hZ; have OV : Hid (OwnI lo hi we c (.slice vo vk vc) (rlist nf0 F0 a1 n2 F2)) := ov; clear ov))
      all_goals
        go_wp2_with fail
        go_meet
        case rel =>
          refine ⟨_, .slice vo vk vc, lo, hi, rfl, ?_, ?_, ?_, hlh, ?_, ?_, ?_, ?_, ?_⟩
          · omega
          · simp [World.setCell] <;> omega
          · omega
          · simp [World.setCell] <;> omega
          · first | assumption | go_grown
          · first | with_reducible exact Blk.new rfl | with_reducible exact Blk.new (by simp) | exact (Blk.set (cs := #[.int .i64 c, .slice none 0 0]) (Blk.set (cs := #[.int .i64 0, .slice none 0 0]) (newOld hZ) _ _ rfl) _ _ rfl) | exact (Blk.set (cs := #[.int .i64 c, .slice none 0 0]) (Blk.set (cs := #[.int .i64 0, .slice none 0 0]) (Blk.old (Blk.drew (Blk.new rfl)) hZ) _ _ rfl) _ _ rfl)
          · first | exact OV.out.keep (keep_set2 (by omega)) | exact OV.out.keep (keep_below ((Below.refl _ _).alloc (Nat.le_refl _) _) (by omega))
          · omega
    case rest =>
      obtain ⟨kg, vg, log, hig, rfl, hk1g, hk2g, hl1g, hl3g, hl2g, hbb, hN, ov, hdg⟩ := hcut
      obtain ⟨ga, gk, gc, egv⟩ : ∃ ao k cap, vg = .slice ao k cap := OutI.shape ov.rd
      subst egv
      clear hR0 QN q_x0_0 q_x0_1 q_x0_2 q_a1_0 q_a1_1 q_a1_2 q_a1_3 q_a1_4
      obtain ⟨w8, hv⟩ : ∃ v, v = wc := ⟨_, rfl⟩
      subst hv
      have zw8 : w7.heap.size ≤ w8.heap.size := hbb.size
      replace B_a0 : Hid (Blk w8 w.heap.size #[.int .i64 nodes0, .int .i64 slots0, .slice ao0 nf0 cp0] 24) := B_a0.out.old hbb
      replace B_a1 : Hid (Blk w8 w1.heap.size #[.int .i64 a0, .int .i64 a1, .int .i64 a2, .int .i64 a3, .int .i64 a4] 40) := B_a1.out.old hbb
      replace B_S : Hid (Blk w8 ks #[.int .i64 c, .slice sa sk sc] 45) := B_S.out.old hbb
      replace B_x0 : Hid (Blk w8 w5.heap.size #[.int .i64 nodes0, .int .i64 slots0, .slice (some ⟨gx0, 0, none⟩) nf0 nf0] 32) := B_x0.out.old hbb
      replace O_s : Hid (OwnI los his w8 c (.slice sa sk sc) (rlist nf0 F0 a1 n2 F2)) := O_s.out.keep (keep_below hbb (by omega))
      replace O_x0 : Hid (OwB w4.heap.size w5.heap.size w8 gx0 nf0 F0) := O_x0.out.keep (keep_below hbb (by omega))
      replace O_x2 : Hid (OwH w6.heap.size w7.heap.size w8 w6.heap.size n2 F2) := O_x2.out.keep (keep_below hbb (by omega))
      replace D_w : Hid (Below w.heap.size w w8) := D_w.out.trans (hbb.mono (by omega))
      clear hbb
      have B_G : Hid (Blk w8 kg #[.int .i64 c, .slice ga gk gc] 45) := hN
      clear hN
      have O_g : Hid (OwnI log hig w8 c (.slice ga gk gc) (rlist nf0 F0 a1 n2 F2)) := ov
      clear ov
      have c_G_0 := B_G.out.cell (j := 0) rfl
      have c_G_1 := B_G.out.cell (j := 1) rfl
      have l_G := B_G.out.lt
      have c_S_0 := B_S.out.cell (j := 0) rfl
      have c_S_1 := B_S.out.cell (j := 1) rfl
      have l_S := B_S.out.lt
      go_wp2_with fail
      refine (eqI_any O_g.out.rd O_s.out.rd HNL.out).mono ?_
      rintro e w9 ⟨rfl, hbb⟩
      clear c_G_0 c_G_1 l_G c_S_0 c_S_1 l_S
      have zw9 : w8.heap.size ≤ w9.heap.size := hbb.size
      replace B_a0 : Hid (Blk w9 w.heap.size #[.int .i64 nodes0, .int .i64 slots0, .slice ao0 nf0 cp0] 24) := B_a0.out.old hbb
      replace B_a1 : Hid (Blk w9 w1.heap.size #[.int .i64 a0, .int .i64 a1, .int .i64 a2, .int .i64 a3, .int .i64 a4] 40) := B_a1.out.old hbb
      replace B_S : Hid (Blk w9 ks #[.int .i64 c, .slice sa sk sc] 45) := B_S.out.old hbb
      replace B_x0 : Hid (Blk w9 w5.heap.size #[.int .i64 nodes0, .int .i64 slots0, .slice (some ⟨gx0, 0, none⟩) nf0 nf0] 32) := B_x0.out.old hbb
      replace B_G : Hid (Blk w9 kg #[.int .i64 c, .slice ga gk gc] 45) := B_G.out.old hbb
      replace O_s : Hid (OwnI los his w9 c (.slice sa sk sc) (rlist nf0 F0 a1 n2 F2)) := O_s.out.keep (keep_below hbb (by omega))
      replace O_x0 : Hid (OwB w4.heap.size w5.heap.size w9 gx0 nf0 F0) := O_x0.out.keep (keep_below hbb (by omega))
      replace O_x2 : Hid (OwH w6.heap.size w7.heap.size w9 w6.heap.size n2 F2) := O_x2.out.keep (keep_below hbb (by omega))
      replace O_g : Hid (OwnI log hig w9 c (.slice ga gk gc) (rlist nf0 F0 a1 n2 F2)) := O_g.out.keep (keep_below hbb (by omega))
      replace D_w : Hid (Below w.heap.size w w9) := D_w.out.trans (hbb.mono (by omega))
      clear hbb
      have q_x0_0 : ∀ W, Below w9.heap.size w9 W → W.cell? ⟨w5.heap.size, 0, none⟩ = some (.int .i64 nodes0) := fun W h => (B_x0.out.old h).cell (j := 0) rfl
      have q_x0_1 : ∀ W, Below w9.heap.size w9 W → W.cell? ⟨w5.heap.size, 1, none⟩ = some (.int .i64 slots0) := fun W h => (B_x0.out.old h).cell (j := 1) rfl
      have q_x0_2 : ∀ W, Below w9.heap.size w9 W → W.cell? ⟨w5.heap.size, 2, none⟩ = some (.slice (some ⟨gx0, 0, none⟩) nf0 nf0) := fun W h => (B_x0.out.old h).cell (j := 2) rfl
      have q_a0_0 : ∀ W, Below w9.heap.size w9 W → W.cell? ⟨w.heap.size, 0, none⟩ = some (.int .i64 nodes0) := fun W h => (B_a0.out.old h).cell (j := 0) rfl
      have q_a0_1 : ∀ W, Below w9.heap.size w9 W → W.cell? ⟨w.heap.size, 1, none⟩ = some (.int .i64 slots0) := fun W h => (B_a0.out.old h).cell (j := 1) rfl
      have q_a0_2 : ∀ W, Below w9.heap.size w9 W → W.cell? ⟨w.heap.size, 2, none⟩ = some (.slice ao0 nf0 cp0) := fun W h => (B_a0.out.old h).cell (j := 2) rfl
      have QA : ∀ W, Below w9.heap.size w9 W → Hid (Rf W (.slice ao0 nf0 cp0) nf0 F0) := fun W h => H0.out.later (D_w.out.trans (h.mono (by omega)))
      have QX : ∀ W, Below w9.heap.size w9 W → Hid (OwB w4.heap.size w5.heap.size W gx0 nf0 F0) := fun W h => O_x0.out.keep (keep_below h (by omega))
      go_wp2_with fail
      go_region_held (fun W => Below w9.heap.size w9 W) (go_grown)
        (first | (go_at_call 7; refine Calls.mono (toNet_any (QA _ (by go_grown)).out (by omega)) ?_; rintro e w10 ⟨gqa, rfl, hmo, hb1⟩; have hR1 : Below w9.heap.size w9 w10 := box_step (by go_grown) hb1 (Nat.le_refl _)) | (go_at_call 10; refine Calls.mono (eqNet_any (QX _ (by go_grown)).out hmo (by omega)) ?_; rintro e w11 ⟨rfl, hb2⟩; have hR2 : Below w9.heap.size w9 w11 := box_step hR1 hb2 (Nat.le_refl _)))
      have hbb : Below w9.heap.size w9 w11 := hR2
      clear hR1 hR2 hmo hb1 hb2 QA QX q_x0_0 q_x0_1 q_x0_2 q_a0_0 q_a0_1 q_a0_2
      have zw11 : w9.heap.size ≤ w11.heap.size := hbb.size
      replace B_a0 : Hid (Blk w11 w.heap.size #[.int .i64 nodes0, .int .i64 slots0, .slice ao0 nf0 cp0] 24) := B_a0.out.old hbb
      replace B_a1 : Hid (Blk w11 w1.heap.size #[.int .i64 a0, .int .i64 a1, .int .i64 a2, .int .i64 a3, .int .i64 a4] 40) := B_a1.out.old hbb
      replace B_S : Hid (Blk w11 ks #[.int .i64 c, .slice sa sk sc] 45) := B_S.out.old hbb
      replace B_x0 : Hid (Blk w11 w5.heap.size #[.int .i64 nodes0, .int .i64 slots0, .slice (some ⟨gx0, 0, none⟩) nf0 nf0] 32) := B_x0.out.old hbb
      replace B_G : Hid (Blk w11 kg #[.int .i64 c, .slice ga gk gc] 45) := B_G.out.old hbb
      replace O_s : Hid (OwnI los his w11 c (.slice sa sk sc) (rlist nf0 F0 a1 n2 F2)) := O_s.out.keep (keep_below hbb (by omega))
      replace O_x0 : Hid (OwB w4.heap.size w5.heap.size w11 gx0 nf0 F0) := O_x0.out.keep (keep_below hbb (by omega))
      replace O_x2 : Hid (OwH w6.heap.size w7.heap.size w11 w6.heap.size n2 F2) := O_x2.out.keep (keep_below hbb (by omega))
      replace O_g : Hid (OwnI log hig w11 c (.slice ga gk gc) (rlist nf0 F0 a1 n2 F2)) := O_g.out.keep (keep_below hbb (by omega))
      replace D_w : Hid (Below w.heap.size w w11) := D_w.out.trans (hbb.mono (by omega))
      clear hbb
      go_wp2_with fail
      refine (toHops_any (H2.out.later D_w.out) (by omega)).mono ?_
      rintro e w12 ⟨rfl, hmo, hbb⟩
      have zw12 : w11.heap.size ≤ w12.heap.size := hbb.size
      replace B_a0 : Hid (Blk w12 w.heap.size #[.int .i64 nodes0, .int .i64 slots0, .slice ao0 nf0 cp0] 24) := B_a0.out.old hbb
      replace B_a1 : Hid (Blk w12 w1.heap.size #[.int .i64 a0, .int .i64 a1, .int .i64 a2, .int .i64 a3, .int .i64 a4] 40) := B_a1.out.old hbb
      replace B_S : Hid (Blk w12 ks #[.int .i64 c, .slice sa sk sc] 45) := B_S.out.old hbb
      replace B_x0 : Hid (Blk w12 w5.heap.size #[.int .i64 nodes0, .int .i64 slots0, .slice (some ⟨gx0, 0, none⟩) nf0 nf0] 32) := B_x0.out.old hbb
      replace B_G : Hid (Blk w12 kg #[.int .i64 c, .slice ga gk gc] 45) := B_G.out.old hbb
      replace O_s : Hid (OwnI los his w12 c (.slice sa sk sc) (rlist nf0 F0 a1 n2 F2)) := O_s.out.keep (keep_below hbb (by omega))
      replace O_x0 : Hid (OwB w4.heap.size w5.heap.size w12 gx0 nf0 F0) := O_x0.out.keep (keep_below hbb (by omega))
      replace O_x2 : Hid (OwH w6.heap.size w7.heap.size w12 w6.heap.size n2 F2) := O_x2.out.keep (keep_below hbb (by omega))
      replace O_g : Hid (OwnI log hig w12 c (.slice ga gk gc) (rlist nf0 F0 a1 n2 F2)) := O_g.out.keep (keep_below hbb (by omega))
      replace D_w : Hid (Below w.heap.size w w12) := D_w.out.trans (hbb.mono (by omega))
      clear hbb
      have O_q : Hid (OwH w11.heap.size w12.heap.size w12 w11.heap.size n2 F2) := hmo
      clear hmo
      go_wp2_with fail
      refine (eqHops_any O_x2.out O_q.out (by omega)).mono ?_
      rintro e w13 ⟨rfl, hbb⟩
      clear O_q
      have zw13 : w12.heap.size ≤ w13.heap.size := hbb.size
      replace B_a0 : Hid (Blk w13 w.heap.size #[.int .i64 nodes0, .int .i64 slots0, .slice ao0 nf0 cp0] 24) := B_a0.out.old hbb
      replace B_a1 : Hid (Blk w13 w1.heap.size #[.int .i64 a0, .int .i64 a1, .int .i64 a2, .int .i64 a3, .int .i64 a4] 40) := B_a1.out.old hbb
      replace B_S : Hid (Blk w13 ks #[.int .i64 c, .slice sa sk sc] 45) := B_S.out.old hbb
      replace B_x0 : Hid (Blk w13 w5.heap.size #[.int .i64 nodes0, .int .i64 slots0, .slice (some ⟨gx0, 0, none⟩) nf0 nf0] 32) := B_x0.out.old hbb
      replace B_G : Hid (Blk w13 kg #[.int .i64 c, .slice ga gk gc] 45) := B_G.out.old hbb
      replace O_s : Hid (OwnI los his w13 c (.slice sa sk sc) (rlist nf0 F0 a1 n2 F2)) := O_s.out.keep (keep_below hbb (by omega))
      replace O_x0 : Hid (OwB w4.heap.size w5.heap.size w13 gx0 nf0 F0) := O_x0.out.keep (keep_below hbb (by omega))
      replace O_x2 : Hid (OwH w6.heap.size w7.heap.size w13 w6.heap.size n2 F2) := O_x2.out.keep (keep_below hbb (by omega))
      replace O_g : Hid (OwnI log hig w13 c (.slice ga gk gc) (rlist nf0 F0 a1 n2 F2)) := O_g.out.keep (keep_below hbb (by omega))
      replace D_w : Hid (Below w.heap.size w w13) := D_w.out.trans (hbb.mono (by omega))
      clear hbb
      have c_x0_0 := B_x0.out.cell (j := 0) rfl
      have c_x0_1 := B_x0.out.cell (j := 1) rfl
      have c_x0_2 := B_x0.out.cell (j := 2) rfl
      have l_x0 := B_x0.out.lt
      go_wp2_with fail
      refine (markNet_any 1 O_x0.out (by omega) (by omega) (by omega) (by omega)).mono ?_
      rintro e w14 ⟨rfl, hww⟩
      clear c_x0_0 c_x0_1 c_x0_2 l_x0
      have zw14 : w13.heap.size ≤ w14.heap.size := hww.below.size
      replace B_a0 : Hid (Blk w14 w.heap.size #[.int .i64 nodes0, .int .i64 slots0, .slice ao0 nf0 cp0] 24) := B_a0.out.within hww (by omega)
      replace B_a1 : Hid (Blk w14 w1.heap.size #[.int .i64 a0, .int .i64 a1, .int .i64 a2, .int .i64 a3, .int .i64 a4] 40) := B_a1.out.within hww (by omega)
      replace B_S : Hid (Blk w14 ks #[.int .i64 c, .slice sa sk sc] 45) := B_S.out.within hww (by omega)
      replace B_x0 : Hid (Blk w14 w5.heap.size #[.int .i64 nodes0, .int .i64 slots0, .slice (some ⟨gx0, 0, none⟩) nf0 nf0] 32) := B_x0.out.within hww (by omega)
      replace B_G : Hid (Blk w14 kg #[.int .i64 c, .slice ga gk gc] 45) := B_G.out.within hww (by omega)
      replace O_s : Hid (OwnI los his w14 c (.slice sa sk sc) (rlist nf0 F0 a1 n2 F2)) := O_s.out.keep (keep_apart hww (by omega) (by omega))
      replace O_x2 : Hid (OwH w6.heap.size w7.heap.size w14 w6.heap.size n2 F2) := O_x2.out.keep (keep_apart hww (by omega) (by omega))
      replace O_g : Hid (OwnI log hig w14 c (.slice ga gk gc) (rlist nf0 F0 a1 n2 F2)) := O_g.out.keep (keep_apart hww (by omega) (by omega))
      replace D_w : Hid (Below w.heap.size w w14) := D_w.out.trans (hww.below.mono (by omega))
      clear hww O_x0
      obtain ⟨k1, hk⟩ : ∃ k : Int, k = mF 1 nf0 := ⟨_, rfl⟩
      have hk1a : 0 ≤ k1 := by rw [hk]; unfold mF; omega
      have hk1b : k1 ≤ 1 + 8000000 := by rw [hk]; unfold mF; omega
      rw [← hk]
      clear hk
      go_wp2_with fail
      refine (markHops_any k1 O_x2.out (by omega) (by omega) (by omega)).mono ?_
      rintro e w15 ⟨rfl, hww⟩
      have zw15 : w14.heap.size ≤ w15.heap.size := hww.below.size
      replace B_a0 : Hid (Blk w15 w.heap.size #[.int .i64 nodes0, .int .i64 slots0, .slice ao0 nf0 cp0] 24) := B_a0.out.within hww (by omega)
      replace B_a1 : Hid (Blk w15 w1.heap.size #[.int .i64 a0, .int .i64 a1, .int .i64 a2, .int .i64 a3, .int .i64 a4] 40) := B_a1.out.within hww (by omega)
      replace B_S : Hid (Blk w15 ks #[.int .i64 c, .slice sa sk sc] 45) := B_S.out.within hww (by omega)
      replace B_x0 : Hid (Blk w15 w5.heap.size #[.int .i64 nodes0, .int .i64 slots0, .slice (some ⟨gx0, 0, none⟩) nf0 nf0] 32) := B_x0.out.within hww (by omega)
      replace B_G : Hid (Blk w15 kg #[.int .i64 c, .slice ga gk gc] 45) := B_G.out.within hww (by omega)
      replace O_s : Hid (OwnI los his w15 c (.slice sa sk sc) (rlist nf0 F0 a1 n2 F2)) := O_s.out.keep (keep_apart hww (by omega) (by omega))
      replace O_g : Hid (OwnI log hig w15 c (.slice ga gk gc) (rlist nf0 F0 a1 n2 F2)) := O_g.out.keep (keep_apart hww (by omega) (by omega))
      replace D_w : Hid (Below w.heap.size w w15) := D_w.out.trans (hww.below.mono (by omega))
      clear hww O_x2
      obtain ⟨k2, hk⟩ : ∃ k : Int, k = mF k1 n2 := ⟨_, rfl⟩
      have hk2a : 0 ≤ k2 := by rw [hk]; unfold mF; omega
      have hk2b : k2 ≤ k1 + 8000000 := by rw [hk]; unfold mF; omega
      rw [← hk]
      clear hk
      have c_G_0 := B_G.out.cell (j := 0) rfl
      have c_G_1 := B_G.out.cell (j := 1) rfl
      have l_G := B_G.out.lt
      have c_S_0 := B_S.out.cell (j := 0) rfl
      have c_S_1 := B_S.out.cell (j := 1) rfl
      have l_S := B_S.out.lt
      go_wp2_with fail
      refine (eqI_any O_g.out.rd O_s.out.rd HNL.out).mono ?_
      rintro e w16 ⟨rfl, hbb⟩
      clear c_G_0 c_G_1 l_G c_S_0 c_S_1 l_S
      have zw16 : w15.heap.size ≤ w16.heap.size := hbb.size
      replace B_a0 : Hid (Blk w16 w.heap.size #[.int .i64 nodes0, .int .i64 slots0, .slice ao0 nf0 cp0] 24) := B_a0.out.old hbb
      replace B_a1 : Hid (Blk w16 w1.heap.size #[.int .i64 a0, .int .i64 a1, .int .i64 a2, .int .i64 a3, .int .i64 a4] 40) := B_a1.out.old hbb
      replace B_S : Hid (Blk w16 ks #[.int .i64 c, .slice sa sk sc] 45) := B_S.out.old hbb
      replace B_x0 : Hid (Blk w16 w5.heap.size #[.int .i64 nodes0, .int .i64 slots0, .slice (some ⟨gx0, 0, none⟩) nf0 nf0] 32) := B_x0.out.old hbb
      replace B_G : Hid (Blk w16 kg #[.int .i64 c, .slice ga gk gc] 45) := B_G.out.old hbb
      replace O_s : Hid (OwnI los his w16 c (.slice sa sk sc) (rlist nf0 F0 a1 n2 F2)) := O_s.out.keep (keep_below hbb (by omega))
      replace O_g : Hid (OwnI log hig w16 c (.slice ga gk gc) (rlist nf0 F0 a1 n2 F2)) := O_g.out.keep (keep_below hbb (by omega))
      replace D_w : Hid (Below w.heap.size w w16) := D_w.out.trans (hbb.mono (by omega))
      clear hbb
      have c_G_0 := B_G.out.cell (j := 0) rfl
      have c_G_1 := B_G.out.cell (j := 1) rfl
      have l_G := B_G.out.lt
      go_wp2_with fail
      refine (markI_any O_g.out HNL.out (by omega) (by omega)).mono ?_
      rintro e w17 ⟨r, rfl, hmk, hww⟩
      clear c_G_0 c_G_1 l_G
      have hr0 : 0 ≤ r := hmk.pos
      have zw17 : w16.heap.size ≤ w17.heap.size := hww.below.size
      replace B_a0 : Hid (Blk w17 w.heap.size #[.int .i64 nodes0, .int .i64 slots0, .slice ao0 nf0 cp0] 24) := B_a0.out.within hww (by omega)
      replace B_a1 : Hid (Blk w17 w1.heap.size #[.int .i64 a0, .int .i64 a1, .int .i64 a2, .int .i64 a3, .int .i64 a4] 40) := B_a1.out.within hww (by omega)
      replace B_S : Hid (Blk w17 ks #[.int .i64 c, .slice sa sk sc] 45) := B_S.out.within hww (by omega)
      replace B_x0 : Hid (Blk w17 w5.heap.size #[.int .i64 nodes0, .int .i64 slots0, .slice (some ⟨gx0, 0, none⟩) nf0 nf0] 32) := B_x0.out.within hww (by omega)
      replace B_G : Hid (Blk w17 kg #[.int .i64 c, .slice ga gk gc] 45) := B_G.out.within hww (by omega)
      replace O_s : Hid (OwnI los his w17 c (.slice sa sk sc) (rlist nf0 F0 a1 n2 F2)) := O_s.out.keep (keep_apart hww (by omega) (by omega))
      replace D_w : Hid (Below w.heap.size w w17) := D_w.out.trans (hww.below.mono (by omega))
      replace O_g : Hid (MkdI log hig w17 c (.slice ga gk gc) (rlist nf0 F0 a1 n2 F2) r) := hmk
      clear hmk hww
      have c_G_0 := B_G.out.cell (j := 0) rfl
      have c_G_1 := B_G.out.cell (j := 1) rfl
      have l_G := B_G.out.lt
      go_wp2_with fail
      refine (heldI_any O_g.out HNL.out (by omega)).mono ?_
      rintro e w18 ⟨rfl, hbb⟩
      clear c_G_0 c_G_1 l_G
      have zw18 : w17.heap.size ≤ w18.heap.size := hbb.size
      replace B_a0 : Hid (Blk w18 w.heap.size #[.int .i64 nodes0, .int .i64 slots0, .slice ao0 nf0 cp0] 24) := B_a0.out.old hbb
      replace B_a1 : Hid (Blk w18 w1.heap.size #[.int .i64 a0, .int .i64 a1, .int .i64 a2, .int .i64 a3, .int .i64 a4] 40) := B_a1.out.old hbb
      replace B_S : Hid (Blk w18 ks #[.int .i64 c, .slice sa sk sc] 45) := B_S.out.old hbb
      replace B_x0 : Hid (Blk w18 w5.heap.size #[.int .i64 nodes0, .int .i64 slots0, .slice (some ⟨gx0, 0, none⟩) nf0 nf0] 32) := B_x0.out.old hbb
      replace B_G : Hid (Blk w18 kg #[.int .i64 c, .slice ga gk gc] 45) := B_G.out.old hbb
      replace O_s : Hid (OwnI los his w18 c (.slice sa sk sc) (rlist nf0 F0 a1 n2 F2)) := O_s.out.keep (keep_below hbb (by omega))
      replace O_g : Hid (MkdI log hig w18 c (.slice ga gk gc) (rlist nf0 F0 a1 n2 F2) r) := O_g.out.keep (keep_below hbb (by omega))
      replace D_w : Hid (Below w.heap.size w w18) := D_w.out.trans (hbb.mono (by omega))
      clear hbb
      have q_a0_0 : ∀ W, Below w18.heap.size w18 W → W.cell? ⟨w.heap.size, 0, none⟩ = some (.int .i64 nodes0) := fun W h => (B_a0.out.old h).cell (j := 0) rfl
      have q_a0_1 : ∀ W, Below w18.heap.size w18 W → W.cell? ⟨w.heap.size, 1, none⟩ = some (.int .i64 slots0) := fun W h => (B_a0.out.old h).cell (j := 1) rfl
      have q_a0_2 : ∀ W, Below w18.heap.size w18 W → W.cell? ⟨w.heap.size, 2, none⟩ = some (.slice ao0 nf0 cp0) := fun W h => (B_a0.out.old h).cell (j := 2) rfl
      have q_a1_0 : ∀ W, Below w18.heap.size w18 W → W.cell? ⟨w1.heap.size, 0, none⟩ = some (.int .i64 a0) := fun W h => (B_a1.out.old h).cell (j := 0) rfl
      have q_a1_1 : ∀ W, Below w18.heap.size w18 W → W.cell? ⟨w1.heap.size, 1, none⟩ = some (.int .i64 a1) := fun W h => (B_a1.out.old h).cell (j := 1) rfl
      have q_a1_2 : ∀ W, Below w18.heap.size w18 W → W.cell? ⟨w1.heap.size, 2, none⟩ = some (.int .i64 a2) := fun W h => (B_a1.out.old h).cell (j := 2) rfl
      have q_a1_3 : ∀ W, Below w18.heap.size w18 W → W.cell? ⟨w1.heap.size, 3, none⟩ = some (.int .i64 a3) := fun W h => (B_a1.out.old h).cell (j := 3) rfl
      have q_a1_4 : ∀ W, Below w18.heap.size w18 W → W.cell? ⟨w1.heap.size, 4, none⟩ = some (.int .i64 a4) := fun W h => (B_a1.out.old h).cell (j := 4) rfl
      have QN : ∀ W, Below w18.heap.size w18 W → Hid (Rf W (.slice ao0 nf0 cp0) nf0 F0 ∧ Rf W (.slice va2 n2 vc2) n2 F2) := fun W h => ⟨H0.out.later (D_w.out.trans (h.mono (by omega))), H2.out.later (D_w.out.trans (h.mono (by omega)))⟩
      have hR0 : Below w18.heap.size w18 w18 := Below.refl _ _
      go_wp2_with fail
      go_cut [15] from 81 to 87 (fun p wx => ∃ (kx : Nat) (v : Value) (lo hi : Nat), p = .pointer (some ⟨kx, 0, none⟩) ∧ w18.heap.size ≤ kx ∧ kx < wx.heap.size ∧ w18.heap.size ≤ lo ∧ lo ≤ hi ∧ hi ≤ wx.heap.size ∧ Below w18.heap.size w18 wx ∧ Blk wx kx #[.int .i64 c, v] 45 ∧ OwnI lo hi wx c v (rlist nf0 F0 a1 n2 F2) ∧ (kx < lo ∨ hi ≤ kx))
      case first =>
        go_region_held3 (fun W => Below w18.heap.size w18 W) (go_grown) (first
          | (go_at_call 7; refine Calls.mono (toNet_any (QN _ (by first | assumption | go_grown)).out.1 (by omega)) ?_; rintro e wa ⟨ga, rfl, ha, ba⟩; have zwa := ba.size; (try simp at zwa); have hRwa : Below w18.heap.size w18 wa := (by refine box_step ?_ ba (by go_size); go_grown); (first | (have hZ := box_step hZ ba (Nat.le_refl _)) | (have hZ := ba)); obtain ⟨ho1, hf1, hz1⟩ := olds hZ; have HA : Hid (Rf wa (.slice (some ⟨ga, 0, none⟩) nf0 nf0) nf0 F0) := ha.rd; have kaa : Below wa.heap.size wa wa := Below.refl _ _; clear ha)
          | (go_at_call 16; refine Calls.mono (toNeed_any a0 a1 a2 a3 a4 _) ?_; rintro e wd ⟨rfl, bd⟩; have zwd := bd.size; (try simp at zwd); have hRwd : Below w18.heap.size w18 wd := (by refine box_step ?_ bd (by go_size); go_grown); (first | (have hZ := box_step hZ bd (Nat.le_refl _)) | (have hZ := bd)); obtain ⟨ho1, hf1, hz1⟩ := olds hZ; have kad : Below wa.heap.size wa wd := (by refine box_step ?_ bd (by go_size); go_grown))
          | (go_at_call 17; refine Calls.mono (toHops_ex (QN _ (by first | assumption | go_grown)).out.2 (by omega)) ?_; rintro e wb ⟨gb, rfl, hb', bb⟩; have zwb := bb.size; (try simp at zwb); have hRwb : Below w18.heap.size w18 wb := (by refine box_step ?_ bb (by go_size); go_grown); (first | (have hZ := box_step hZ bb (Nat.le_refl _)) | (have hZ := bb)); obtain ⟨ho1, hf1, hz1⟩ := olds hZ; have HB2 : Hid (Rf wb (.slice (some ⟨gb, 0, none⟩) n2 n2) n2 F2) := hb'; have kbb : Below wb.heap.size wb wb := Below.refl _ _; have kab : Below wa.heap.size wa wb := (by refine box_step ?_ bb (by go_size); go_grown); clear hb')
          | (go_at_call 18; refine Calls.mono (weakI (iRep_any HCC.out (HA.out.later (by first | assumption | go_grown)) (HB2.out.later (by first | assumption | go_grown)) (Nat.le_refl _) (by omega) (by omega))) ?_; rintro e we ⟨v, lo, hi, rfl, hlo, hlh, hhi, ov, be⟩; obtain ⟨vo, vk, vc, rfl⟩ := OutI.shape ov.rd; (try simp at hlo); have zwe := be.size; (try simp at zwe); have hRwe : Below w18.heap.size w18 we := (by refine box_step ?_ be (by go_size); go_grown); (first | (have hZ := box_step hZ be (Nat.le_refl _)) | (have hZ := be)); obtain ⟨ho1, hf1, hz1⟩ := olds hZ; have OV : Hid (OwnI lo hi we c (.slice vo vk vc) (rlist nf0 F0 a1 n2 F2)) := ov; clear ov))
        all_goals
          go_wp2_with fail
          go_meet
          case rel =>
            refine ⟨_, .slice vo vk vc, lo, hi, rfl, ?_, ?_, ?_, hlh, ?_, ?_, ?_, ?_, ?_⟩
            · omega
            · simp [World.setCell] <;> omega
            · omega
            · simp [World.setCell] <;> omega
            · first | assumption | go_grown
            · first | with_reducible exact Blk.new rfl | with_reducible exact Blk.new (by simp) | exact (Blk.set (cs := #[.int .i64 c, .slice none 0 0]) (Blk.set (cs := #[.int .i64 0, .slice none 0 0]) (newOld hZ) _ _ rfl) _ _ rfl) | exact (Blk.set (cs := #[.int .i64 c, .slice none 0 0]) (Blk.set (cs := #[.int .i64 0, .slice none 0 0]) (Blk.old (Blk.drew (Blk.new rfl)) hZ) _ _ rfl) _ _ rfl)
            · first | exact OV.out.keep (keep_set2 (by omega)) | exact OV.out.keep (keep_below ((Below.refl _ _).alloc (Nat.le_refl _) _) (by omega))
            · omega
      case rest =>
        obtain ⟨kh, vh, loh, hih, rfl, hk1h, hk2h, hl1h, hl3h, hl2h, hbb, hN, ov, hdh⟩ := hcut
        obtain ⟨ha, hk, hc, ehv⟩ : ∃ ao k cap, vh = .slice ao k cap := OutI.shape ov.rd
        subst ehv
        clear hR0 QN q_a0_0 q_a0_1 q_a0_2 q_a1_0 q_a1_1 q_a1_2 q_a1_3 q_a1_4
        obtain ⟨w19, hv⟩ : ∃ v, v = wc := ⟨_, rfl⟩
        subst hv
        have zw19 : w18.heap.size ≤ w19.heap.size := hbb.size
        replace B_a0 : Hid (Blk w19 w.heap.size #[.int .i64 nodes0, .int .i64 slots0, .slice ao0 nf0 cp0] 24) := B_a0.out.old hbb
        replace B_a1 : Hid (Blk w19 w1.heap.size #[.int .i64 a0, .int .i64 a1, .int .i64 a2, .int .i64 a3, .int .i64 a4] 40) := B_a1.out.old hbb
        replace B_S : Hid (Blk w19 ks #[.int .i64 c, .slice sa sk sc] 45) := B_S.out.old hbb
        replace B_x0 : Hid (Blk w19 w5.heap.size #[.int .i64 nodes0, .int .i64 slots0, .slice (some ⟨gx0, 0, none⟩) nf0 nf0] 32) := B_x0.out.old hbb
        replace B_G : Hid (Blk w19 kg #[.int .i64 c, .slice ga gk gc] 45) := B_G.out.old hbb
        replace O_s : Hid (OwnI los his w19 c (.slice sa sk sc) (rlist nf0 F0 a1 n2 F2)) := O_s.out.keep (keep_below hbb (by omega))
        replace O_g : Hid (MkdI log hig w19 c (.slice ga gk gc) (rlist nf0 F0 a1 n2 F2) r) := O_g.out.keep (keep_below hbb (by omega))
        replace D_w : Hid (Below w.heap.size w w19) := D_w.out.trans (hbb.mono (by omega))
        clear hbb
        have B_H : Hid (Blk w19 kh #[.int .i64 c, .slice ha hk hc] 45) := hN
        clear hN
        have O_h : Hid (OwnI loh hih w19 c (.slice ha hk hc) (rlist nf0 F0 a1 n2 F2)) := ov
        clear ov
        have c_H_0 := B_H.out.cell (j := 0) rfl
        have c_H_1 := B_H.out.cell (j := 1) rfl
        have l_H := B_H.out.lt
        have c_S_0 := B_S.out.cell (j := 0) rfl
        have c_S_1 := B_S.out.cell (j := 1) rfl
        have l_S := B_S.out.lt
        go_wp2_with fail
        refine (eqI_any O_h.out.rd O_s.out.rd HNL.out).mono ?_
        rintro e w20 ⟨rfl, hbb⟩
        clear c_H_0 c_H_1 l_H c_S_0 c_S_1 l_S
        have zw20 : w19.heap.size ≤ w20.heap.size := hbb.size
        replace B_a0 : Hid (Blk w20 w.heap.size #[.int .i64 nodes0, .int .i64 slots0, .slice ao0 nf0 cp0] 24) := B_a0.out.old hbb
        replace B_a1 : Hid (Blk w20 w1.heap.size #[.int .i64 a0, .int .i64 a1, .int .i64 a2, .int .i64 a3, .int .i64 a4] 40) := B_a1.out.old hbb
        replace B_S : Hid (Blk w20 ks #[.int .i64 c, .slice sa sk sc] 45) := B_S.out.old hbb
        replace B_x0 : Hid (Blk w20 w5.heap.size #[.int .i64 nodes0, .int .i64 slots0, .slice (some ⟨gx0, 0, none⟩) nf0 nf0] 32) := B_x0.out.old hbb
        replace B_G : Hid (Blk w20 kg #[.int .i64 c, .slice ga gk gc] 45) := B_G.out.old hbb
        replace B_H : Hid (Blk w20 kh #[.int .i64 c, .slice ha hk hc] 45) := B_H.out.old hbb
        replace O_s : Hid (OwnI los his w20 c (.slice sa sk sc) (rlist nf0 F0 a1 n2 F2)) := O_s.out.keep (keep_below hbb (by omega))
        replace O_g : Hid (MkdI log hig w20 c (.slice ga gk gc) (rlist nf0 F0 a1 n2 F2) r) := O_g.out.keep (keep_below hbb (by omega))
        replace O_h : Hid (OwnI loh hih w20 c (.slice ha hk hc) (rlist nf0 F0 a1 n2 F2)) := O_h.out.keep (keep_below hbb (by omega))
        replace D_w : Hid (Below w.heap.size w w20) := D_w.out.trans (hbb.mono (by omega))
        clear hbb
        have c_G_0 := B_G.out.cell (j := 0) rfl
        have c_G_1 := B_G.out.cell (j := 1) rfl
        have l_G := B_G.out.lt
        go_wp2_with fail
        refine (heldI_any O_g.out HNL.out (by omega)).mono ?_
        rintro e w21 ⟨rfl, hbb⟩
        clear c_G_0 c_G_1 l_G
        have zw21 : w20.heap.size ≤ w21.heap.size := hbb.size
        replace B_a0 : Hid (Blk w21 w.heap.size #[.int .i64 nodes0, .int .i64 slots0, .slice ao0 nf0 cp0] 24) := B_a0.out.old hbb
        replace B_a1 : Hid (Blk w21 w1.heap.size #[.int .i64 a0, .int .i64 a1, .int .i64 a2, .int .i64 a3, .int .i64 a4] 40) := B_a1.out.old hbb
        replace B_S : Hid (Blk w21 ks #[.int .i64 c, .slice sa sk sc] 45) := B_S.out.old hbb
        replace B_x0 : Hid (Blk w21 w5.heap.size #[.int .i64 nodes0, .int .i64 slots0, .slice (some ⟨gx0, 0, none⟩) nf0 nf0] 32) := B_x0.out.old hbb
        replace B_G : Hid (Blk w21 kg #[.int .i64 c, .slice ga gk gc] 45) := B_G.out.old hbb
        replace B_H : Hid (Blk w21 kh #[.int .i64 c, .slice ha hk hc] 45) := B_H.out.old hbb
        replace O_s : Hid (OwnI los his w21 c (.slice sa sk sc) (rlist nf0 F0 a1 n2 F2)) := O_s.out.keep (keep_below hbb (by omega))
        replace O_g : Hid (MkdI log hig w21 c (.slice ga gk gc) (rlist nf0 F0 a1 n2 F2) r) := O_g.out.keep (keep_below hbb (by omega))
        replace O_h : Hid (OwnI loh hih w21 c (.slice ha hk hc) (rlist nf0 F0 a1 n2 F2)) := O_h.out.keep (keep_below hbb (by omega))
        replace D_w : Hid (Below w.heap.size w w21) := D_w.out.trans (hbb.mono (by omega))
        clear hbb
        go_wp2
        go_ret
        exact ⟨rfl, D_w.out⟩

set_option maxRecDepth 100000 in
theorem lifted (os : Os) (started : os.Started) (H : Type) (enc : TypeId × Value → H) :
    ReturnsInHanded {} Try.checked os 4 .any (Rows.fnExactReplayHopsSpec.pre6 enc Try.prog Try.f4 Rows.fnExactReplayHopsRow.domain false) (Rows.fnExactReplayHopsSpec.post enc Try.prog Try.f4 false true false false) := by
  refine returnsInHanded_of_change (C := Try.checked) own started (by kernel_rfl) Try.func4
    (ChangeSpec.witness6 (enc := enc) (C := Try.checked) false ⟨#[], #[.agg #[.int .i64 0, .int .i64 0, .slice none 0 0], .agg #[.int .i64 0, .int .i64 0, .int .i64 0, .int .i64 0, .int .i64 0], .slice none 0 0], []⟩ 8 (by kernel_rfl) (by kernel_rfl) (by kernel_rfl) (by kernel_rfl)) ?_
  intro W base args ds gs before hval0 hW hcnd _
  have hval : ∀ (j : Nat) t v, Try.f4.params[j]? = some t → args[j]? = some v → Value.okWide Try.prog W .any base t v := hval0
  have hW' := hW
  obtain ⟨p, q, hA0, hV, rfl, hfz, hnd⟩ := hW
  have hA : DataW.TrodAll enc Try.prog W 0 (fun _ => true) true Try.f4.params.toList args.toList ds p := hA0
  rw [Try.params4] at hA hval
  obtain ⟨v0, vs0, d0, ds0, p0, q0, hargs, rfl, rfl, h0, r0⟩ := trodAll_cons hA
  obtain ⟨v1, vs1, d1, ds1, p1, q1, rfl, rfl, rfl, h1, r1⟩ := trodAll_cons r0
  obtain ⟨v2, vs2, d2, ds2, p2, q2, rfl, rfl, rfl, h2, r2⟩ := trodAll_cons r1
  obtain ⟨rfl, rfl, rfl⟩ := trodAll_nil r2
  obtain rfl : args = #[v0, v1, v2] := by cases args; simp_all
  obtain ⟨rfl, rfl⟩ := trodVars_none hV
  have k0 := h0
  have lt0 : ∀ x ∈ p0, x.block < W.heap.size := by obtain ⟨m, hm⟩ := k0; exact DataW.trod_lt m _ _ _ hm
  obtain ⟨nodes0, slots0, ao0, nf0, cp0, F0, rfl, R0, nb0, wl00, wl10, wl20, wl30⟩ := open_net (hval 0 24 v0 rfl rfl) h0
  have k1 := h1
  have lt1 : ∀ x ∈ p1, x.block < W.heap.size := by obtain ⟨m, hm⟩ := k1; exact DataW.trod_lt m _ _ _ hm
  have k2 := h2
  have lt2 : ∀ x ∈ p2, x.block < W.heap.size := by obtain ⟨m, hm⟩ := k2; exact DataW.trod_lt m _ _ _ hm
  obtain ⟨a0, a1, a2, a3, a4, rfl, -⟩ := open_need (hval 1 40 v1 rfl rfl) h1
  obtain ⟨n2, F2, R2, nb2⟩ := open_hops (hval 2 41 v2 rfl rfl) h2
  clear hA0 hval0
  refine (walk R0 nb0 wl00 wl10 wl20 wl30 a0 a1 a2 a3 a4 R2 nb2).mono fun e W' ⟨he, bel⟩ => ?_
  subst he
  exact ⟨_, rfl, _, _, _, [], _, [], hW', trodAll_mk1 (shut_bool Try.underlying4 _), (trodAll_cons_mk (Below.trod laidOut (by kernel_rfl) (of_decide_eq_true (by kernel_rfl)) k0 bel lt0) (trodAll_cons_mk (Below.trod laidOut (by kernel_rfl) (of_decide_eq_true (by kernel_rfl)) k1 bel lt1) (trodAll_cons_mk (Below.trod laidOut (by kernel_rfl) (of_decide_eq_true (by kernel_rfl)) k2 bel lt2) trodAll_mk0))), rfl, bel.frame _, fun h => by cases h⟩

theorem over : Rows.fnExactReplayHopsRow.holds Try.pinned (OpenSpec.ofChange Rows.fnExactReplayHopsSpec) :=
  OpenClaim.holds_of_wide 4 Try.f4 rfl rfl rfl rfl rfl rfl rfl ⟨rfl, rfl, rfl, rfl, rfl⟩ rfl rfl rfl rfl rfl (by kernel_rfl) Try.func4 (by kernel_rfl)
    (of_decide_eq_true (by kernel_rfl)) (by unfold Func.isWrapper; first | (rw [if_pos (by decide +kernel)]; kernel_rfl) | (rw [if_neg (by decide +kernel)]; exact ⟨rfl, rfl⟩))
    (fun os started H enc _ => lifted os started H enc)
end Go.Proofs.Ytfpklfpcencimaa.LawReplayHops
namespace Go.Proofs.Ytfpklfpcencimaa
theorem replayHops_holds : Rows.FnExactReplayHopsSaid := LawReplayHops.over
#print axioms replayHops_holds
end Go.Proofs.Ytfpklfpcencimaa
