/- PinNets, by the program: a contract. -/
import Derived.Test.YtclnmikneomccaaPq
namespace Go.Proofs.Ytclnmikneomccaa
open Go.RowKit Go.Maps
set_option linter.unusedVariables false
set_option linter.unusedSimpArgs false
/-- While pins' nets are told: the result, what is told so far, the nets. -/
structure Pst (w W : World) (p4 p6 L0 : Nat) (vN vL : Value) (n : Nat) (X Z : Nat → Int) (k : Nat) : Prop where
  b4 : Blk W p4 #[.int .i64 0, .slice none 0 0] 31
  b6 : Blk W p6 #[.int .i64 0, vL] 31
  nets : Ol W (p6 + 1) vN (fints X n)
  li : Ol W L0 vL (fints Z k)
  nl : ∀ g, vN.ownBlock = some g → g < L0
  be : Below w.heap.size w W
  sz : L0 ≤ W.heap.size
  l4 : p4 < L0
  l6 : p6 < L0
  ne : p4 ≠ p6
  w4 : w.heap.size ≤ p4
  w6 : w.heap.size ≤ p6
theorem Pst.later {w W W' : World} {p4 p6 L0 : Nat} {vN vL : Value} {n : Nat} {X Z : Nat → Int} {k : Nat} (h : Pst w W p4 p6 L0 vN vL n X Z k) (hb : Below W.heap.size W W') : Pst w W' p4 p6 L0 vN vL n X Z k :=
  ⟨h.b4.old hb, h.b6.old hb, h.nets.later hb, h.li.later hb, h.nl, h.be.trans (hb.mono h.be.size), Nat.le_trans h.sz hb.size, h.l4, h.l6, h.ne, h.w4, h.w6⟩
/-- The list is pushed onto, and then stored into what is told. -/
structure Pst1 (w W : World) (p4 p6 L0 : Nat) (vN vL v0 : Value) (n : Nat) (X Z : Nat → Int) (k : Nat) : Prop where
  b4 : Blk W p4 #[.int .i64 0, .slice none 0 0] 31
  b6 : Blk W p6 #[.int .i64 0, v0] 31
  nets : Ol W (p6 + 1) vN (fints X n)
  li : Ol W L0 vL (fints Z k)
  nl : ∀ g, vN.ownBlock = some g → g < L0
  be : Below w.heap.size w W
  sz : L0 ≤ W.heap.size
  l4 : p4 < L0
  l6 : p6 < L0
  ne : p4 ≠ p6
  w4 : w.heap.size ≤ p4
  w6 : w.heap.size ≤ p6
theorem Pst.push {w W W' : World} {p4 p6 L0 : Nat} {vN vL v' : Value} {n : Nat} {X Z : Nat → Int} {k : Nat} (h : Pst w W p4 p6 L0 vN vL n X Z k) (hb : Below L0 W W') (ho : Ol W' L0 v' (fints Z (k + 1))) : Pst1 w W' p4 p6 L0 vN v' vL n X Z (k + 1) :=
  ⟨(hb.block p4 h.l4).trans h.b4, (hb.block p6 h.l6).trans h.b6, h.nets.keepOn fun g hg => hb.block g (h.nl g hg), ho, h.nl, h.be.trans (hb.mono (by have := h.w4; have := h.l4; omega)), Nat.le_trans h.sz hb.size, h.l4, h.l6, h.ne, h.w4, h.w6⟩
theorem Pst1.stored {w W : World} {p4 p6 L0 : Nat} {vN vL v0 : Value} {n : Nat} {X Z : Nat → Int} {k : Nat} (h : Pst1 w W p4 p6 L0 vN vL v0 n X Z k) : Pst w (W.setCell ⟨p6, 1, none⟩ vL) p4 p6 L0 vN vL n X Z k := by
  have key : ∀ g, g ≠ p6 → (W.setCell ⟨p6, 1, none⟩ vL).heap[g]? = W.heap[g]? := fun g hg => Below.heap_setCell _ _ _ _ (by simpa using hg)
  refine ⟨h.b4.setOther (by simpa using h.ne) _, h.b6.set 1 _ rfl, h.nets.keepOn fun g hg => key g ?_, h.li.keepOn fun g hg => key g ?_, h.nl, h.be.setCell h.w6 _, by simpa using h.sz, h.l4, h.l6, h.ne, h.w4, h.w6⟩
  · have := (h.nets.lt g hg).1; omega
  · have := (h.li.lt g hg).1; have := h.l6; omega
set_option maxRecDepth 20000 in
set_option maxHeartbeats 6400000 in
theorem iPin_any {w : World} {ao po : Option Addr} {n cap m pc : Nat} {S : Nat → R.G} {Q : Nat → P.G} {X : Nat → Int} (hX : IsNets S n X) (h : R.Rsp w (.slice ao n cap) n S) (hp : P.Rsp w (.slice po m pc) m Q) (hn : n ≤ 1048576) (hm : m ≤ 1048576) (hcap : n ≤ cap) :
    Calls Try.prog 45 #[.slice ao n cap, .slice po m pc] w fun e w' => ∃ v, e = .returned (.agg #[.int .i64 (pcd S n m), v]) ∧ OwnI w.heap.size w'.heap.size w' (pcd S n m) v (fints (pnt S X n Q) m) ∧ Below w.heap.size w w' := by
  have HX : Hid (IsNets S n X) := hX
  have HA : ∀ W, Below w.heap.size w W → Hid (R.Rsp W (.slice ao n cap) n S ∧ P.Rsp W (.slice po m pc) m Q) := fun W hb => ⟨h.later hb, hp.later hb⟩
  have HN : Hid (n ≤ 1048576 ∧ n ≤ cap) := ⟨hn, hcap⟩
  have hmI : (m : Int) ≤ 1048576 := by omega
  clear h hp hX hn hcap
  go_enter Try.func45, Try.ntmps45
  go_wp2_with fail
  obtain ⟨w1, hw1⟩ : ∃ W, W = w.alloc (.cells #[.int .i64 0, .slice none 0 0] 31) := ⟨_, rfl⟩
  obtain ⟨p4, h4⟩ : ∃ p, p = w.heap.size := ⟨_, rfl⟩
  have H1 : Hid (Blk w1 p4 #[.int .i64 0, .slice none 0 0] 31 ∧ Below w.heap.size w w1 ∧ w.heap.size ≤ p4) := by rw [hw1]; exact ⟨Blk.new h4, box_stay (Below.refl _ _) _, by omega⟩
  rw [← hw1, ← h4]
  clear hw1 h4
  refine (iRects_any (HA _ H1.out.2.1).out.1 HN.out.1).mono ?_
  rintro e w2 ⟨rfl, hb2⟩
  obtain ⟨c, hc⟩ : ∃ c, c = rcode S n := ⟨_, rfl⟩
  rw [← hc]
  have HC : Hid (c = rcode S n) := hc
  have H2 : Hid (Blk w2 p4 #[.int .i64 0, .slice none 0 0] 31 ∧ Below w.heap.size w w2) := ⟨H1.out.1.old hb2, H1.out.2.1.trans (hb2.mono H1.out.2.1.size)⟩
  clear hc hb2
  by_cases hz : c = 0
  case neg =>
    have hzb : (c != 0) = true := by simpa using hz
    have HZ : Hid (c ≠ 0) := hz
    have HPC : Hid (pcd S n m = c) := by show _ = _; unfold pcd; rw [← HC.out, if_pos hz]
    clear hz
    have e0 := H2.out.1.cell (j := 0) rfl
    have e1 := H2.out.1.cell (j := 1) rfl
    have ef : ∀ j, w2.frozen? ⟨p4, j, none⟩ = false := fun j => H2.out.1.frozen j
    obtain ⟨w4, hw4⟩ : ∃ W, W = (w2.setCell ⟨p4, 0, none⟩ (.int .i64 (c))).setCell ⟨p4, 1, none⟩ (.slice none 0 0) := ⟨_, rfl⟩
    have H4 : Hid (Blk w4 p4 #[.int .i64 (c), .slice none 0 0] 31 ∧ Below w.heap.size w w4 ∧ w4 = (w2.setCell ⟨p4, 0, none⟩ (.int .i64 (c))).setCell ⟨p4, 1, none⟩ (.slice none 0 0)) := ⟨by rw [hw4]; exact (H2.out.1.set 0 _ rfl).set 1 _ rfl, by rw [hw4]; exact (H2.out.2.setCell H1.out.2.2 _).setCell H1.out.2.2 _, hw4⟩
    clear hw4
    go_wp2_with fail
    rw [← H4.out.2.2]
    have s0 := H4.out.1.cell (j := 0) rfl
    have s1 := H4.out.1.cell (j := 1) rfl
    refine bodyPost_ret (v := .agg #[.int .i64 (c), .slice none 0 0]) (by simp [results, Try.results45, go_sem, s0, s1]) rfl (by rw [HPC.out]; exact ⟨_, rfl, Or.inl ⟨HZ.out, rfl⟩, H4.out.2.1⟩)
  case pos =>
  have hzb : (c != 0) = false := by simpa using hz
  have HK := rcode_ok (S := S) (n := n) (by rw [← HC.out]; exact hz)
  have HK2 : Hid _ := HK
  have HR0 : Hid (rcode S n = 0) := by rw [← HC.out]; exact hz
  subst hz
  by_cases hlong : 200 < m
  · have hlI : (200 : Int) < m := by omega
    have HPC : Hid (pcd S n m = 2) := by show _ = _; unfold pcd; rw [HR0.out]; simp [hlong]
    clear hlong HK
    have e0 := H2.out.1.cell (j := 0) rfl
    have e1 := H2.out.1.cell (j := 1) rfl
    have ef : ∀ j, w2.frozen? ⟨p4, j, none⟩ = false := fun j => H2.out.1.frozen j
    obtain ⟨w4, hw4⟩ : ∃ W, W = (w2.setCell ⟨p4, 0, none⟩ (.int .i64 (2))).setCell ⟨p4, 1, none⟩ (.slice none 0 0) := ⟨_, rfl⟩
    have H4 : Hid (Blk w4 p4 #[.int .i64 (2), .slice none 0 0] 31 ∧ Below w.heap.size w w4 ∧ w4 = (w2.setCell ⟨p4, 0, none⟩ (.int .i64 (2))).setCell ⟨p4, 1, none⟩ (.slice none 0 0)) := ⟨by rw [hw4]; exact (H2.out.1.set 0 _ rfl).set 1 _ rfl, by rw [hw4]; exact (H2.out.2.setCell H1.out.2.2 _).setCell H1.out.2.2 _, hw4⟩
    clear hw4
    go_wp2_with fail
    rw [← H4.out.2.2]
    have s0 := H4.out.1.cell (j := 0) rfl
    have s1 := H4.out.1.cell (j := 1) rfl
    refine bodyPost_ret (v := .agg #[.int .i64 (2), .slice none 0 0]) (by simp [results, Try.results45, go_sem, s0, s1]) rfl (by rw [HPC.out]; exact ⟨_, rfl, Or.inl ⟨by decide, rfl⟩, H4.out.2.1⟩)
  have HPC : Hid (pcd S n m = 0) := by show _ = _; unfold pcd; rw [HR0.out]; simp [hlong]
  have hlI : (m : Int) ≤ 200 := by omega
  have hnI : (n : Int) ≤ 60 := by have := HK.1; omega
  clear HK hlong
  go_upto_region 7 with fail
  obtain ⟨wa, hwa⟩ : ∃ W, W = w2.alloc (.cells #[.int .i64 0, .slice none 0 0] 31) := ⟨_, rfl⟩
  obtain ⟨p6, h6⟩ : ∃ p, p = w2.heap.size := ⟨_, rfl⟩
  have HAa : Hid (Blk wa p4 #[.int .i64 0, .slice none 0 0] 31 ∧ Blk wa p6 #[.int .i64 0, .slice none 0 0] 31 ∧ Below w.heap.size w wa ∧ p4 ≠ p6 ∧ w.heap.size ≤ p6) := ⟨by rw [hwa]; exact H2.out.1.alloc _, by rw [hwa]; exact Blk.new h6, by rw [hwa]; exact box_stay H2.out.2 _, by have := H2.out.1.lt; omega, by have := H2.out.2.size; omega⟩
  rw [← hwa, ← h6]
  clear hwa h6
  go_wp2_with fail
  refine (netNum_any (HA _ HAa.out.2.2.1).out.1 HK2.out.2 HK2.out.1 HN.out.2).mono ?_
  rintro e w3 ⟨v, Y, rfl, ho, hN, hb3⟩
  rw [fints_congr (HX.out Y hN)] at ho
  obtain ⟨va, vc, ev⟩ : ∃ ao cap, v = .slice ao n cap := by
    obtain ⟨a, c, e, _⟩ := ho.form
    rw [fints_len] at e
    exact ⟨a, c, e⟩
  subst ev
  obtain ⟨L0, hL0⟩ : ∃ L, L = w3.heap.size := ⟨_, rfl⟩
  have HS : Hid (Pst w w3 p4 p6 L0 (.slice va n vc) (.slice none 0 0) n X (pnt S X n Q) 0) := ⟨HAa.out.1.old hb3, HAa.out.2.1.old hb3, ho.low (by have := HAa.out.2.1.lt; exact this), by rw [fints_zero]; exact Ol.nil _ _, fun g hg => by rw [hL0]; exact (ho.lt g hg).2, HAa.out.2.2.1.trans (hb3.mono HAa.out.2.2.1.size), by rw [hL0]; exact Nat.le_refl _, by have := (HAa.out.1.old hb3).lt; omega, by have := (HAa.out.2.1.old hb3).lt; omega, HAa.out.2.2.2.1, H1.out.2.2, HAa.out.2.2.2.2⟩
  clear ho hN hb3 hL0
  go_wp2_with fail
  go_loopw [26] (fun i wr => ∃ (k : Nat) (vl : Value), k ≤ m ∧ i = .int .i64 k ∧ Hid (Pst w wr p4 p6 L0 (.slice va n vc) vl n X (pnt S X n Q) k)) (fun i _ => m - (intOf i).toNat)
  case atStart => exact ⟨0, _, Nat.zero_le _, rfl, HS⟩
  case round =>
    clear HS
    obtain ⟨k, vl, hk, rfl, HH⟩ := hrel
    by_cases hkm : k < m
    · have hkI : (k : Int) < m := by omega
      obtain ⟨p, hp⟩ : ∃ p, p = Q k := ⟨_, rfl⟩
      obtain ⟨pb, poff, hpo, hpc⟩ := (HA wr HH.out.be).out.2.at hkm
      subst hpo
      rw [← hp] at hpc
      have c0 : wr.cell? ⟨pb, poff + k * 3, none⟩ = some (.int .i64 p.ly) := hpc 0 (by omega)
      have c1 : wr.cell? ⟨pb, poff + k * 3 + 1, none⟩ = some (.int .i64 p.x) := hpc 1 (by omega)
      have c2 : wr.cell? ⟨pb, poff + k * 3 + 2, none⟩ = some (.int .i64 p.y) := hpc 2 (by omega)
      have HP : Hid (p = Q k) := hp
      clear hp hpc
      go_upto_region 11 with fail
      obtain ⟨wb, hwb⟩ : ∃ W, W = wr.alloc (.cells #[.int .i64 p.ly, .int .i64 p.x, .int .i64 p.y] 93) := ⟨_, rfl⟩
      obtain ⟨p9, h9⟩ : ∃ p, p = wr.heap.size := ⟨_, rfl⟩
      have HB : Hid (Pst w wb p4 p6 L0 (.slice va n vc) vl n X (pnt S X n Q) k ∧ Blk wb p9 #[.int .i64 p.ly, .int .i64 p.x, .int .i64 p.y] 93) := ⟨by rw [hwb]; exact HH.out.later ((Below.refl _ _).alloc (Nat.le_refl _) _), by rw [hwb]; exact Blk.new h9⟩
      rw [← hwb, ← h9]
      clear hwb h9 c0 c1 c2
      have k0 := HB.out.2.cell (j := 0) rfl
      have k1 := HB.out.2.cell (j := 1) rfl
      have k2 := HB.out.2.cell (j := 2) rfl
      go_wp2_with fail
      refine (indexF_any p (HA wb HB.out.1.be).out.1 HN.out.1).mono ?_
      rintro e w7 ⟨rfl, hb7⟩
      have H7 : Hid (Pst w w7 p4 p6 L0 (.slice va n vc) vl n X (pnt S X n Q) k) := HB.out.1.later hb7
      clear hb7 k0 k1 k2
      obtain ⟨f, hf⟩ : ∃ f, f = fpl (fun a => inB p (S a)) n := ⟨_, rfl⟩
      rw [← hf]
      have hcase : (f < 0 ∧ pnt S X n Q k = -1) ∨ ∃ a : Nat, a < n ∧ f = (a : Int) ∧ pnt S X n Q k = X a := by
        show (f < 0 ∧ pz (fun a => inB (Q k) (S a)) X n = -1) ∨ ∃ a : Nat, a < n ∧ f = (a : Int) ∧ pz (fun a => inB (Q k) (S a)) X n = X a
        rw [← HP.out]
        rcases fpl_spec (fun a => inB p (S a)) n with ⟨e, _⟩ | ⟨a, ha, e, _, _⟩
        · exact Or.inl ⟨by rw [hf, e]; decide, pz_none e⟩
        · exact Or.inr ⟨a, ha, by rw [hf, e], pz_hit e⟩
      clear hf
      have hL := fints_len (pnt S X n Q) k
      have HL : Hid ((fints (pnt S X n Q) k).length = k) := hL
      clear hL
      have g1 := H7.out.b6.cell (j := 1) rfl
      obtain ⟨la, lc, ev⟩ : ∃ ao cap, vl = .slice ao k cap := by
        obtain ⟨a, c, e, _⟩ := H7.out.li.form
        rw [fints_len] at e
        exact ⟨a, c, e⟩
      subst ev
      rcases hcase with ⟨hneg, hz⟩ | ⟨a, ha, hfa, hz⟩
      · have HZ : Hid (pnt S X n Q k = -1) := hz
        have hfn : ¬ 0 ≤ f := by omega
        clear hz
        go_wp2_with (first | (at_builtin; refine pushL rfl (.tmp 41) (.tmp 43) rfl w7 (-1) L0 (.slice la k lc) (fints (pnt S X n Q) k) (by simp [Act.eval]) H7.out.li 1 (by simp [Act.eval]) (by rw [HL.out]; omega) H7.out.sz ?_; intro ao4 c4 w8 ho4 hg4 hp4; rw [HL.out] at ho4 hp4 ⊢; have hb8 : Below L0 w7 w8 := ((Below.refl L0 w7).alloc H7.out.sz _).grown hg4 (by simp; have := H7.out.sz; omega) fun g hg => (H7.out.li.lt g hg).1; have H8 : Hid (Pst1 w w8 p4 p6 L0 (.slice va n vc) (.slice ao4 (k + 1) c4) (.slice la k lc) n X (pnt S X n Q) (k + 1)) := H7.out.push hb8 (by rw [fints_more, HZ.out]; exact ho4); have e0 := H8.out.b6.cell (j := 0) rfl; have e1 := H8.out.b6.cell (j := 1) rfl; have ef : ∀ j, w8.frozen? ⟨p6, j, none⟩ = false := fun j => H8.out.b6.frozen j; clear ho4 hg4 hp4 hb8 g1))
        go_roundw
        case rel => exact ⟨k + 1, _, by omega, by simp, H8.out.stored⟩
        case measure => simp [intOf]; omega
      · have HZ : Hid (pnt S X n Q k = X a) := hz
        clear hz
        subst hfa
        have haI : (a : Int) < n := by omega
        obtain ⟨nb, noff, hva, hvc⟩ := row_one H7.out.nets.rdRow ha
        subst hva
        obtain ⟨y, hy⟩ : ∃ y, y = X a := ⟨_, rfl⟩
        rw [← hy] at hvc HZ
        clear hy
        go_wp2_with (first | (at_builtin; refine pushL rfl (.tmp 41) (.tmp 43) rfl w7 (y) L0 (.slice la k lc) (fints (pnt S X n Q) k) (by simp [Act.eval]) H7.out.li 1 (by simp [Act.eval]) (by rw [HL.out]; omega) H7.out.sz ?_; intro ao4 c4 w8 ho4 hg4 hp4; rw [HL.out] at ho4 hp4 ⊢; have hb8 : Below L0 w7 w8 := ((Below.refl L0 w7).alloc H7.out.sz _).grown hg4 (by simp; have := H7.out.sz; omega) fun g hg => (H7.out.li.lt g hg).1; have H8 : Hid (Pst1 w w8 p4 p6 L0 (.slice (some ⟨nb, noff, none⟩) n vc) (.slice ao4 (k + 1) c4) (.slice la k lc) n X (pnt S X n Q) (k + 1)) := H7.out.push hb8 (by rw [fints_more, HZ.out]; exact ho4); have e0 := H8.out.b6.cell (j := 0) rfl; have e1 := H8.out.b6.cell (j := 1) rfl; have ef : ∀ j, w8.frozen? ⟨p6, j, none⟩ = false := fun j => H8.out.b6.frozen j; clear ho4 hg4 hp4 hb8 g1))
        go_roundw
        case rel => exact ⟨k + 1, _, by omega, by simp, H8.out.stored⟩
        case measure => simp [intOf]; omega
    · obtain rfl : m = k := by omega
      obtain ⟨la, lc, ev⟩ : ∃ ao cap, vl = .slice ao m cap := by
        obtain ⟨a, c, e, _⟩ := HH.out.li.form
        rw [fints_len] at e
        exact ⟨a, c, e⟩
      subst ev
      have g0 := HH.out.b6.cell (j := 0) rfl
      have g1 := HH.out.b6.cell (j := 1) rfl
      have e0 := HH.out.b4.cell (j := 0) rfl
      have e1 := HH.out.b4.cell (j := 1) rfl
      have ef : ∀ j, wr.frozen? ⟨p4, j, none⟩ = false := fun j => HH.out.b4.frozen j
      obtain ⟨w4, hw4⟩ : ∃ W, W = (wr.setCell ⟨p4, 0, none⟩ (.int .i64 0)).setCell ⟨p4, 1, none⟩ (.slice la m lc) := ⟨_, rfl⟩
      have H4 : Hid (Blk w4 p4 #[.int .i64 0, .slice la m lc] 31 ∧ Below w.heap.size w w4 ∧ OwnI w.heap.size w4.heap.size w4 0 (.slice la m lc) (fints (pnt S X n Q) m) ∧ w4 = (wr.setCell ⟨p4, 0, none⟩ (.int .i64 0)).setCell ⟨p4, 1, none⟩ (.slice la m lc)) := by
        refine ⟨by rw [hw4]; exact (HH.out.b4.set 0 _ rfl).set 1 _ rfl, by rw [hw4]; exact (HH.out.be.setCell H1.out.2.2 _).setCell H1.out.2.2 _, ?_, hw4⟩
        have hz4 : w4.heap.size = wr.heap.size := by rw [hw4]; simp
        refine OwnI.of ((HH.out.li.keepOn fun g hg => ?_).low (by have := HH.out.l4; have := HH.out.w4; omega)) (Nat.le_refl _)
        have hpg : g ≠ p4 := by have := (HH.out.li.lt g hg).1; have := HH.out.l4; omega
        rw [hw4, Below.heap_setCell _ _ _ _ (by simpa using hpg), Below.heap_setCell _ _ _ _ (by simpa using hpg)]
      clear hw4
      go_wp2_with fail
      rw [← H4.out.2.2.2]
      have s0 := H4.out.1.cell (j := 0) rfl
      have s1 := H4.out.1.cell (j := 1) rfl
      refine bodyPost_ret (v := .agg #[.int .i64 0, .slice la m lc]) (by simp [results, Try.results45, go_sem, s0, s1]) rfl (by rw [HPC.out]; exact ⟨_, rfl, H4.out.2.2.1, H4.out.2.1⟩)
end Go.Proofs.Ytclnmikneomccaa
