/- PinNets, in both packages: contracts. -/
import Derived.Test.YtclnmikneomccaaPn
namespace Go.Proofs.Ytclnmikneomccaa
open Go.RowKit Go.Maps
set_option linter.unusedVariables false
set_option linter.unusedSimpArgs false
def pcd (S : Nat → R.G) (n m : Nat) : Int := if rcode S n ≠ 0 then rcode S n else if 200 < m then 2 else 0
/-- The pins' nets. -/
def pnt (S : Nat → R.G) (X : Nat → Int) (n : Nat) (Q : Nat → P.G) : Nat → Int := fun a => pz (fun k => inB (Q a) (S k)) X n
theorem OwnI.rdRow {lo hi : Nat} {w : World} {v : Value} {X : Nat → Int} {n : Nat} (h : OwnI lo hi w 0 v (fints X n)) : RdRow w v n X := by
  rcases h.rd with ⟨e, _⟩ | ⟨_, h⟩
  · exact absurd rfl e
  · rw [fints_len] at h
    exact h.congr fun i hi => fints_at X hi
theorem Ol.rdRow {w : World} {lo : Nat} {v : Value} {X : Nat → Int} {n : Nat} (h : Ol w lo v (fints X n)) : RdRow w v n X := by
  have h := h.rd
  rw [fints_len] at h
  exact h.congr fun i hi => fints_at X hi
theorem row_one {w : World} {ao : Option Addr} {n cap k : Nat} {f : Nat → Int} (h : RdRow w (.slice ao n cap) n f) (hk : k < n) : ∃ b off, ao = some ⟨b, off, none⟩ ∧ w.cell? ⟨b, off + k, none⟩ = some (.int .i64 (f k)) := by
  rcases h with ⟨ao', cap', _, e⟩ | ⟨b, off, cap', e, hc⟩
  · omega
  · simp only [Value.slice.injEq] at e
    exact ⟨b, off, e.1, hc k hk⟩
set_option maxRecDepth 20000 in
set_option maxHeartbeats 6400000 in
theorem sPin_any {w : World} {ao po : Option Addr} {n cap m pc : Nat} {S : Nat → R.G} {Q : Nat → P.G} {X : Nat → Int} (hX : IsNets S n X) (h : R.Rsp w (.slice ao n cap) n S) (hp : P.Rsp w (.slice po m pc) m Q) (hn : n ≤ 1048576) (hm : m ≤ 1048576) (hcap : n ≤ cap) :
    Calls Try.prog 43 #[.slice ao n cap, .slice po m pc] w fun e w' => ∃ v, e = .returned (.agg #[.int .i64 (pcd S n m), v]) ∧ OwnI w.heap.size w'.heap.size w' (pcd S n m) v (fints (pnt S X n Q) m) ∧ Below w.heap.size w w' := by
  have HX : Hid (IsNets S n X) := hX
  have HA : ∀ W, Below w.heap.size w W → Hid (R.Rsp W (.slice ao n cap) n S ∧ P.Rsp W (.slice po m pc) m Q) := fun W hb => ⟨h.later hb, hp.later hb⟩
  have HN : Hid (n ≤ 1048576 ∧ n ≤ cap) := ⟨hn, hcap⟩
  have hmI : (m : Int) ≤ 1048576 := by omega
  clear h hp hX hn hcap
  go_enter Try.func43, Try.ntmps43
  go_wp2_with fail
  obtain ⟨w1, hw1⟩ : ∃ W, W = w.alloc (.cells #[.int .i64 0, .slice none 0 0] 31) := ⟨_, rfl⟩
  obtain ⟨p4, h4⟩ : ∃ p, p = w.heap.size := ⟨_, rfl⟩
  have H1 : Hid (Blk w1 p4 #[.int .i64 0, .slice none 0 0] 31 ∧ Below w.heap.size w w1 ∧ w.heap.size ≤ p4) := by rw [hw1]; exact ⟨Blk.new h4, box_stay (Below.refl _ _) _, by omega⟩
  rw [← hw1, ← h4]
  clear hw1 h4
  refine (sRects_any (HA _ H1.out.2.1).out.1 HN.out.1).mono ?_
  rintro e w2 ⟨rfl, hb2⟩
  obtain ⟨c, hc⟩ : ∃ c, c = rcode S n := ⟨_, rfl⟩
  rw [← hc]
  have HC : Hid (c = rcode S n) := hc
  have H2 : Hid (Blk w2 p4 #[.int .i64 0, .slice none 0 0] 31 ∧ Below w.heap.size w w2) := ⟨H1.out.1.old hb2, H1.out.2.1.trans (hb2.mono H1.out.2.1.size)⟩
  clear hc hb2
  by_cases hz : c = 0
  case neg =>
    have hzb : (c != 0) = true := by simpa using hz
    have HZ : Hid (c ≠ 0) := hz
    have HPC : Hid (pcd S n m = c) := by show _ = _; unfold pcd; rw [← HC.out, if_pos hz]
    clear hz
    have e0 := H2.out.1.cell (j := 0) rfl
    have e1 := H2.out.1.cell (j := 1) rfl
    have ef : ∀ j, w2.frozen? ⟨p4, j, none⟩ = false := fun j => H2.out.1.frozen j
    obtain ⟨w4, hw4⟩ : ∃ W, W = (w2.setCell ⟨p4, 0, none⟩ (.int .i64 (c))).setCell ⟨p4, 1, none⟩ (.slice none 0 0) := ⟨_, rfl⟩
    have H4 : Hid (Blk w4 p4 #[.int .i64 (c), .slice none 0 0] 31 ∧ Below w.heap.size w w4 ∧ w4 = (w2.setCell ⟨p4, 0, none⟩ (.int .i64 (c))).setCell ⟨p4, 1, none⟩ (.slice none 0 0)) := ⟨by rw [hw4]; exact (H2.out.1.set 0 _ rfl).set 1 _ rfl, by rw [hw4]; exact (H2.out.2.setCell H1.out.2.2 _).setCell H1.out.2.2 _, hw4⟩
    clear hw4
    go_wp2_with fail
    rw [← H4.out.2.2]
    have s0 := H4.out.1.cell (j := 0) rfl
    have s1 := H4.out.1.cell (j := 1) rfl
    refine bodyPost_ret (v := .agg #[.int .i64 (c), .slice none 0 0]) (by simp [results, Try.results43, go_sem, s0, s1]) rfl (by rw [HPC.out]; exact ⟨_, rfl, Or.inl ⟨HZ.out, rfl⟩, H4.out.2.1⟩)
  case pos =>
  have hzb : (c != 0) = false := by simpa using hz
  have HK := rcode_ok (S := S) (n := n) (by rw [← HC.out]; exact hz)
  have HK2 : Hid _ := HK
  have HR0 : Hid (rcode S n = 0) := by rw [← HC.out]; exact hz
  subst hz
  by_cases hlong : 200 < m
  · have hlI : (200 : Int) < m := by omega
    have HPC : Hid (pcd S n m = 2) := by show _ = _; unfold pcd; rw [HR0.out]; simp [hlong]
    clear hlong HK
    have e0 := H2.out.1.cell (j := 0) rfl
    have e1 := H2.out.1.cell (j := 1) rfl
    have ef : ∀ j, w2.frozen? ⟨p4, j, none⟩ = false := fun j => H2.out.1.frozen j
    obtain ⟨w4, hw4⟩ : ∃ W, W = (w2.setCell ⟨p4, 0, none⟩ (.int .i64 (2))).setCell ⟨p4, 1, none⟩ (.slice none 0 0) := ⟨_, rfl⟩
    have H4 : Hid (Blk w4 p4 #[.int .i64 (2), .slice none 0 0] 31 ∧ Below w.heap.size w w4 ∧ w4 = (w2.setCell ⟨p4, 0, none⟩ (.int .i64 (2))).setCell ⟨p4, 1, none⟩ (.slice none 0 0)) := ⟨by rw [hw4]; exact (H2.out.1.set 0 _ rfl).set 1 _ rfl, by rw [hw4]; exact (H2.out.2.setCell H1.out.2.2 _).setCell H1.out.2.2 _, hw4⟩
    clear hw4
    go_wp2_with fail
    rw [← H4.out.2.2]
    have s0 := H4.out.1.cell (j := 0) rfl
    have s1 := H4.out.1.cell (j := 1) rfl
    refine bodyPost_ret (v := .agg #[.int .i64 (2), .slice none 0 0]) (by simp [results, Try.results43, go_sem, s0, s1]) rfl (by rw [HPC.out]; exact ⟨_, rfl, Or.inl ⟨by decide, rfl⟩, H4.out.2.1⟩)
  have HPC : Hid (pcd S n m = 0) := by show _ = _; unfold pcd; rw [HR0.out]; simp [hlong]
  have hlI : (m : Int) ≤ 200 := by omega
  have hnI : (n : Int) ≤ 60 := by have := HK.1; omega
  clear HK hlong
  go_wp2_with fail
  refine (sNum_any (HA _ H2.out.2).out.1 HK2.out.2 HK2.out.1).mono ?_
  rintro e w3 ⟨v, Y, rfl, ho, hN, hb3⟩
  have hrw : RdRow w3 v n X := by
    have h1 := ho.rdRow
    exact h1.congr fun i hi => HX.out Y hN i hi
  obtain ⟨va, vc, ev⟩ := hrw.shape
  subst ev
  have H3 : Hid (Blk w3 p4 #[.int .i64 0, .slice none 0 0] 31 ∧ Below w.heap.size w w3) := ⟨H2.out.1.old hb3, H2.out.2.trans (hb3.mono H2.out.2.size)⟩
  have HV : ∀ W, Below w3.heap.size w3 W → Hid (RdRow W (.slice va n vc) n X) := fun W hb => hrw.later hb
  clear ho hN hb3 hrw
  go_wp2_with fail
  obtain ⟨w5, hw5⟩ : ∃ W, W = w3.alloc (.cells #[] 2) := ⟨_, rfl⟩
  have H5 : Hid (Ol w5 w3.heap.size (.slice (some ⟨w3.heap.size, 0, none⟩) 0 0) (fints (pnt S X n Q) 0) ∧ Below w3.heap.size w3 w5) := by
    rw [hw5]
    exact ⟨ownsV_empty _ _ _, (Below.refl _ _).alloc (Nat.le_refl _) _⟩
  rw [← hw5]
  clear hw5
  go_loopw [7, 8] (fun v i wr => ∃ k : Nat, k ≤ m ∧ i = .int .i64 k ∧ Hid (Ol wr w3.heap.size v (fints (pnt S X n Q) k) ∧ Below w3.heap.size w3 wr)) (fun _ i _ => m - (intOf i).toNat)
  case atStart => exact ⟨0, Nat.zero_le _, rfl, H5.out⟩
  case round =>
    obtain ⟨k, hk, rfl, HH⟩ := hrel
    by_cases hkm : k < m
    · have hkI : (k : Int) < m := by omega
      obtain ⟨p, hp⟩ : ∃ p, p = Q k := ⟨_, rfl⟩
      have HP : Hid (p = Q k) := hp
      clear hp
      obtain ⟨wo, hwo⟩ : ∃ W, W = wr := ⟨_, rfl⟩
      rw [← hwo] at HH ⊢
      clear hwo
      obtain ⟨vl, hvl⟩ : ∃ x, x = u7 := ⟨_, rfl⟩
      rw [← hvl] at HH ⊢
      clear hvl
      go_wp2_with fail
      go_loopw [9, 10] (fun s9 s10 wq => ∃ (q : Nat) (z : Int), q ≤ n ∧ s10 = .int .i64 ((q : Int) - 1) ∧ s9 = .int .i64 z ∧ Hid ((((∀ j, q ≤ j → j < n → inB p (S j) = false) ∧ z = -1) ∨ ∃ j, q ≤ j ∧ j < n ∧ inB p (S j) = true ∧ (∀ i, q ≤ i → i < j → inB p (S i) = false) ∧ z = X j) ∧ Below wo.heap.size wo wq)) (fun _ s10 _ => (intOf s10 + 1).toNat)
      case atStart => exact ⟨n, -1, Nat.le_refl _, rfl, rfl, Or.inl ⟨fun j h1 h2 => by omega, rfl⟩, Below.refl _ _⟩
      case round =>
        obtain ⟨q, z, hq, rfl, rfl, HJ⟩ := hrel
        cases q with
        | zero =>
          have HZ : Hid (z = pnt S X n Q k) := by
            show z = pz (fun k_1 => inB (Q k) (S k_1)) X n
            rw [← HP.out]
            rcases HJ.out.1 with ⟨h1, h2⟩ | ⟨j, h1, h2, h3, h4, h5⟩
            · rw [pz_none (fpl_none (B := fun a => inB p (S a)) fun j hj => h1 j (Nat.zero_le _) hj)]; exact h2
            · rw [pz_hit (fpl_hit (B := fun a => inB p (S a)) h2 h3 fun i hi => h4 i (Nat.zero_le _) hi)]; exact h5
          have HO : Hid (Ol wr w3.heap.size vl (fints (pnt S X n Q) k) ∧ Below w3.heap.size w3 wr) := ⟨HH.out.1.later HJ.out.2, HH.out.2.trans (HJ.out.2.mono HH.out.2.size)⟩
          have HL : Hid ((fints (pnt S X n Q) k).length = k) := fints_len _ _
          clear HJ HH
          go_wp2_with (first | (at_builtin; refine pushL rfl (.tmp 94) (.tmp 96) rfl wr z w3.heap.size vl (fints (pnt S X n Q) k) (by simp [Act.eval]) HO.out.1 1 (by simp [Act.eval]) (by rw [HL.out]; omega) HO.out.2.size ?_; intro ao4 c4 w4 ho4 hg4 hp4; rw [HL.out] at ho4 hp4 ⊢; have H4 : Hid (Ol w4 w3.heap.size (.slice ao4 (k + 1) c4) (fints (pnt S X n Q) (k + 1)) ∧ Below w3.heap.size w3 w4) := ⟨by rw [fints_more, ← HZ.out]; exact ho4, HO.out.2.trans (((Below.refl w3.heap.size wr).alloc HO.out.2.size _).grown hg4 (by simp; have := HO.out.2.size; omega) fun g hg => (HO.out.1.lt g hg).1)⟩; clear ho4 hg4 hp4))
          go_roundw
          case rel => exact ⟨k + 1, by omega, by simp, H4⟩
          case measure => simp [intOf]; omega
        | succ q =>
          have hqi : ((q + 1 : Nat) : Int) - 1 = (q : Int) := by omega
          rw [hqi]
          have hqn : q < n := by omega
          have hqI : (q : Int) < n := by omega
          have hbw : Below w.heap.size w wr := H3.out.2.trans ((HH.out.2.trans (HJ.out.2.mono HH.out.2.size)).mono H3.out.2.size)
          obtain ⟨b, off, hao, hc⟩ := (HA wr hbw).out.1.at hqn
          subst hao
          obtain ⟨pb, poff, hpo, hpc⟩ := (HA wr hbw).out.2.at hkm
          subst hpo
          rw [← HP.out] at hpc
          obtain ⟨x, hx⟩ : ∃ x, x = S q := ⟨_, rfl⟩
          rw [← hx] at hc
          have c0 : wr.cell? ⟨b, off + q * 5, none⟩ = some (.int .i64 x.ly) := hc 0 (by omega)
          have c1 : wr.cell? ⟨b, off + q * 5 + 1, none⟩ = some (.int .i64 x.xa) := hc 1 (by omega)
          have c2 : wr.cell? ⟨b, off + q * 5 + 2, none⟩ = some (.int .i64 x.ya) := hc 2 (by omega)
          have c3 : wr.cell? ⟨b, off + q * 5 + 3, none⟩ = some (.int .i64 x.xb) := hc 3 (by omega)
          have c4 : wr.cell? ⟨b, off + q * 5 + 4, none⟩ = some (.int .i64 x.yb) := hc 4 (by omega)
          have HXX : Hid (x = S q) := hx
          have HPC2 : Hid (∀ j, j < 3 → wr.cell? ⟨pb, poff + k * 3 + j, none⟩ = some (P.scell p j)) := hpc
          have HBW : Hid (Below wo.heap.size wo wr) := HJ.out.2
          clear hc hx hpc hbw
          go_upto_region 16 with fail
          obtain ⟨wb, hwb⟩ : ∃ W, W = wr.alloc (.cells #[.int .i64 x.ly, .int .i64 x.xa, .int .i64 x.ya, .int .i64 x.xb, .int .i64 x.yb] 68) := ⟨_, rfl⟩
          obtain ⟨q3, h3⟩ : ∃ q, q = wr.heap.size := ⟨_, rfl⟩
          have hbl : Below wr.heap.size wr wb := by rw [hwb]; exact (Below.refl _ _).alloc (Nat.le_refl _) _
          have HB : Hid (Blk wb q3 #[.int .i64 x.ly, .int .i64 x.xa, .int .i64 x.ya, .int .i64 x.xb, .int .i64 x.yb] 68 ∧ Below wo.heap.size wo wb) := ⟨by rw [hwb]; exact Blk.new h3, HBW.out.trans (hbl.mono HBW.out.size)⟩
          have K0 : ∀ xk : Kept wb.heap.size wb, xk.w.cell? ⟨q3, 0, none⟩ = some (.int .i64 x.ly) := fun xk => (HB.out.1.old xk.h).cell rfl
          have K1 : ∀ xk : Kept wb.heap.size wb, xk.w.cell? ⟨q3, 1, none⟩ = some (.int .i64 x.xa) := fun xk => (HB.out.1.old xk.h).cell rfl
          have K2 : ∀ xk : Kept wb.heap.size wb, xk.w.cell? ⟨q3, 2, none⟩ = some (.int .i64 x.ya) := fun xk => (HB.out.1.old xk.h).cell rfl
          have K3 : ∀ xk : Kept wb.heap.size wb, xk.w.cell? ⟨q3, 3, none⟩ = some (.int .i64 x.xb) := fun xk => (HB.out.1.old xk.h).cell rfl
          have K4 : ∀ xk : Kept wb.heap.size wb, xk.w.cell? ⟨q3, 4, none⟩ = some (.int .i64 x.yb) := fun xk => (HB.out.1.old xk.h).cell rfl
          have M0 : ∀ xk : Kept wb.heap.size wb, xk.w.cell? ⟨pb, poff + k * 3, none⟩ = some (.int .i64 p.ly) := fun xk => kold xk.h (kold hbl (HPC2.out 0 (by omega)))
          have M1 : ∀ xk : Kept wb.heap.size wb, xk.w.cell? ⟨pb, poff + k * 3 + 1, none⟩ = some (.int .i64 p.x) := fun xk => kold xk.h (kold hbl (HPC2.out 1 (by omega)))
          have M2 : ∀ xk : Kept wb.heap.size wb, xk.w.cell? ⟨pb, poff + k * 3 + 2, none⟩ = some (.int .i64 p.y) := fun xk => kold xk.h (kold hbl (HPC2.out 2 (by omega)))
          rw [← hwb, ← h3]
          clear hwb h3 hbl c0 c1 c2 c3 c4
          obtain ⟨t, ht⟩ : ∃ t, t = inB p x := ⟨_, rfl⟩
          have HT : Hid (t = true ↔ inR p x) := by rw [ht]; exact inB_iff
          have HTB : Hid (inB p (S q) = t) := (show inB p (S q) = t from by rw [ht, ← HXX.out])
          clear ht
          by_cases g0 : x.ly = p.ly
          · have b0 : (x.ly == p.ly) = true := by simpa using g0
            have G0 : Hid (x.ly = p.ly) := g0
            clear g0
            by_cases g1 : x.xa ≤ p.x
            · by_cases g2 : p.x ≤ x.xb
              · by_cases g3 : x.ya ≤ p.y
                · by_cases g4 : p.y ≤ x.yb
                  · have hs : t = true := HT.out.2 ⟨G0.out.symm, by omega, by omega, by omega, by omega⟩
                    have gd : decide (p.y ≤ x.yb) = true := by simp; omega
                    refine wp_region_kept wb.heap.size (by kernel_rfl) (by kernel_rfl) ?_
                    intro hne
                    repeat (go_big_quiet_step (fail))
                    refine wpQuiet_nil ?_
                    rintro u ⟨xk, hxk⟩
                    have hR1 := xk.h
                    rw [← hxk] at hR1
                    have HU : Hid (Below wo.heap.size wo u) := HB.out.2.trans (hR1.mono HB.out.2.size)
                    clear hxk xk hne K0 K1 K2 K3 K4 M0 M1 M2 hR1
                    obtain ⟨vb, voff, hva, hvc⟩ := row_one (HV u (HH.out.2.trans (HU.out.mono HH.out.2.size))).out hqn
                    subst hva
                    obtain ⟨y, hy⟩ : ∃ y, y = X q := ⟨_, rfl⟩
                    rw [← hy] at hvc
                    have HF : Hid ((((∀ j, q ≤ j → j < n → inB p (S j) = false) ∧ y = -1) ∨ ∃ j, q ≤ j ∧ j < n ∧ inB p (S j) = true ∧ (∀ i, q ≤ i → i < j → inB p (S i) = false) ∧ y = X j) ∧ Below wo.heap.size wo u) := by
                      refine ⟨Or.inr ⟨q, Nat.le_refl _, hqn, by rw [HTB.out]; exact hs, fun i g1 g2 => by omega, hy⟩, HU.out⟩
                    clear HJ hs hy
                    go_wp2
                    go_roundw
                    case rel => exact ⟨q, y, by omega, by simp, rfl, HF⟩
                    case measure => first | (simp [intOf]; done) | (simp [intOf]; omega)
                  · have hs : t = false := by
                      cases t with
                      | false => rfl
                      | true => exact absurd (HT.out.1 rfl) (fun h => by obtain ⟨h1, h2, h3, h4, h5⟩ := h; first | exact G0.out h1.symm | omega)
                    have gd : decide (p.y ≤ x.yb) = false := by simp; omega
                    refine wp_region_kept wb.heap.size (by kernel_rfl) (by kernel_rfl) ?_
                    intro hne
                    repeat (go_big_quiet_step (fail))
                    refine wpQuiet_nil ?_
                    rintro u ⟨xk, hxk⟩
                    have hR1 := xk.h
                    rw [← hxk] at hR1
                    have HU : Hid (Below wo.heap.size wo u) := HB.out.2.trans (hR1.mono HB.out.2.size)
                    clear hxk xk hne K0 K1 K2 K3 K4 M0 M1 M2 hR1
                    have HF : Hid ((((∀ j, q ≤ j → j < n → inB p (S j) = false) ∧ z = -1) ∨ ∃ j, q ≤ j ∧ j < n ∧ inB p (S j) = true ∧ (∀ i, q ≤ i → i < j → inB p (S i) = false) ∧ z = X j) ∧ Below wo.heap.size wo u) := by
                      refine ⟨?_, HU.out⟩
                      rw [hs] at HTB
                      rcases HJ.out.1 with ⟨h1, h2⟩ | ⟨j, h1, h2, h3, h4, h5⟩
                      · exact Or.inl ⟨fun j g1 g2 => by by_cases e : j = q; (rw [e]; exact HTB.out); exact h1 j (by omega) g2, h2⟩
                      · exact Or.inr ⟨j, by omega, h2, h3, fun i g1 g2 => by by_cases e : i = q; (rw [e]; exact HTB.out); exact h4 i (by omega) g2, h5⟩
                    clear HJ hs
                    go_wp2
                    go_roundw
                    case rel => exact ⟨q, z, by omega, by simp, rfl, HF⟩
                    case measure => first | (simp [intOf]; done) | (simp [intOf]; omega)
                · have hs : t = false := by
                    cases t with
                    | false => rfl
                    | true => exact absurd (HT.out.1 rfl) (fun h => by obtain ⟨h1, h2, h3, h4, h5⟩ := h; first | exact G0.out h1.symm | omega)
                  refine wp_region_kept wb.heap.size (by kernel_rfl) (by kernel_rfl) ?_
                  intro hne
                  repeat (go_big_quiet_step (fail))
                  refine wpQuiet_nil ?_
                  rintro u ⟨xk, hxk⟩
                  have hR1 := xk.h
                  rw [← hxk] at hR1
                  have HU : Hid (Below wo.heap.size wo u) := HB.out.2.trans (hR1.mono HB.out.2.size)
                  clear hxk xk hne K0 K1 K2 K3 K4 M0 M1 M2 hR1
                  have HF : Hid ((((∀ j, q ≤ j → j < n → inB p (S j) = false) ∧ z = -1) ∨ ∃ j, q ≤ j ∧ j < n ∧ inB p (S j) = true ∧ (∀ i, q ≤ i → i < j → inB p (S i) = false) ∧ z = X j) ∧ Below wo.heap.size wo u) := by
                    refine ⟨?_, HU.out⟩
                    rw [hs] at HTB
                    rcases HJ.out.1 with ⟨h1, h2⟩ | ⟨j, h1, h2, h3, h4, h5⟩
                    · exact Or.inl ⟨fun j g1 g2 => by by_cases e : j = q; (rw [e]; exact HTB.out); exact h1 j (by omega) g2, h2⟩
                    · exact Or.inr ⟨j, by omega, h2, h3, fun i g1 g2 => by by_cases e : i = q; (rw [e]; exact HTB.out); exact h4 i (by omega) g2, h5⟩
                  clear HJ hs
                  go_wp2
                  go_roundw
                  case rel => exact ⟨q, z, by omega, by simp, rfl, HF⟩
                  case measure => first | (simp [intOf]; done) | (simp [intOf]; omega)
              · have hs : t = false := by
                  cases t with
                  | false => rfl
                  | true => exact absurd (HT.out.1 rfl) (fun h => by obtain ⟨h1, h2, h3, h4, h5⟩ := h; first | exact G0.out h1.symm | omega)
                refine wp_region_kept wb.heap.size (by kernel_rfl) (by kernel_rfl) ?_
                intro hne
                repeat (go_big_quiet_step (fail))
                refine wpQuiet_nil ?_
                rintro u ⟨xk, hxk⟩
                have hR1 := xk.h
                rw [← hxk] at hR1
                have HU : Hid (Below wo.heap.size wo u) := HB.out.2.trans (hR1.mono HB.out.2.size)
                clear hxk xk hne K0 K1 K2 K3 K4 M0 M1 M2 hR1
                have HF : Hid ((((∀ j, q ≤ j → j < n → inB p (S j) = false) ∧ z = -1) ∨ ∃ j, q ≤ j ∧ j < n ∧ inB p (S j) = true ∧ (∀ i, q ≤ i → i < j → inB p (S i) = false) ∧ z = X j) ∧ Below wo.heap.size wo u) := by
                  refine ⟨?_, HU.out⟩
                  rw [hs] at HTB
                  rcases HJ.out.1 with ⟨h1, h2⟩ | ⟨j, h1, h2, h3, h4, h5⟩
                  · exact Or.inl ⟨fun j g1 g2 => by by_cases e : j = q; (rw [e]; exact HTB.out); exact h1 j (by omega) g2, h2⟩
                  · exact Or.inr ⟨j, by omega, h2, h3, fun i g1 g2 => by by_cases e : i = q; (rw [e]; exact HTB.out); exact h4 i (by omega) g2, h5⟩
                clear HJ hs
                go_wp2
                go_roundw
                case rel => exact ⟨q, z, by omega, by simp, rfl, HF⟩
                case measure => first | (simp [intOf]; done) | (simp [intOf]; omega)
            · have hs : t = false := by
                cases t with
                | false => rfl
                | true => exact absurd (HT.out.1 rfl) (fun h => by obtain ⟨h1, h2, h3, h4, h5⟩ := h; first | exact G0.out h1.symm | omega)
              refine wp_region_kept wb.heap.size (by kernel_rfl) (by kernel_rfl) ?_
              intro hne
              repeat (go_big_quiet_step (fail))
              refine wpQuiet_nil ?_
              rintro u ⟨xk, hxk⟩
              have hR1 := xk.h
              rw [← hxk] at hR1
              have HU : Hid (Below wo.heap.size wo u) := HB.out.2.trans (hR1.mono HB.out.2.size)
              clear hxk xk hne K0 K1 K2 K3 K4 M0 M1 M2 hR1
              have HF : Hid ((((∀ j, q ≤ j → j < n → inB p (S j) = false) ∧ z = -1) ∨ ∃ j, q ≤ j ∧ j < n ∧ inB p (S j) = true ∧ (∀ i, q ≤ i → i < j → inB p (S i) = false) ∧ z = X j) ∧ Below wo.heap.size wo u) := by
                refine ⟨?_, HU.out⟩
                rw [hs] at HTB
                rcases HJ.out.1 with ⟨h1, h2⟩ | ⟨j, h1, h2, h3, h4, h5⟩
                · exact Or.inl ⟨fun j g1 g2 => by by_cases e : j = q; (rw [e]; exact HTB.out); exact h1 j (by omega) g2, h2⟩
                · exact Or.inr ⟨j, by omega, h2, h3, fun i g1 g2 => by by_cases e : i = q; (rw [e]; exact HTB.out); exact h4 i (by omega) g2, h5⟩
              clear HJ hs
              go_wp2
              go_roundw
              case rel => exact ⟨q, z, by omega, by simp, rfl, HF⟩
              case measure => first | (simp [intOf]; done) | (simp [intOf]; omega)
          · have b0 : (x.ly == p.ly) = false := by simpa using g0
            have G0 : Hid (¬ x.ly = p.ly) := g0
            clear g0
            have hs : t = false := by
              cases t with
              | false => rfl
              | true => exact absurd (HT.out.1 rfl) (fun h => by obtain ⟨h1, h2, h3, h4, h5⟩ := h; first | exact G0.out h1.symm | omega)
            refine wp_region_kept wb.heap.size (by kernel_rfl) (by kernel_rfl) ?_
            intro hne
            repeat (go_big_quiet_step (fail))
            refine wpQuiet_nil ?_
            rintro u ⟨xk, hxk⟩
            have hR1 := xk.h
            rw [← hxk] at hR1
            have HU : Hid (Below wo.heap.size wo u) := HB.out.2.trans (hR1.mono HB.out.2.size)
            clear hxk xk hne K0 K1 K2 K3 K4 M0 M1 M2 hR1
            have HF : Hid ((((∀ j, q ≤ j → j < n → inB p (S j) = false) ∧ z = -1) ∨ ∃ j, q ≤ j ∧ j < n ∧ inB p (S j) = true ∧ (∀ i, q ≤ i → i < j → inB p (S i) = false) ∧ z = X j) ∧ Below wo.heap.size wo u) := by
              refine ⟨?_, HU.out⟩
              rw [hs] at HTB
              rcases HJ.out.1 with ⟨h1, h2⟩ | ⟨j, h1, h2, h3, h4, h5⟩
              · exact Or.inl ⟨fun j g1 g2 => by by_cases e : j = q; (rw [e]; exact HTB.out); exact h1 j (by omega) g2, h2⟩
              · exact Or.inr ⟨j, by omega, h2, h3, fun i g1 g2 => by by_cases e : i = q; (rw [e]; exact HTB.out); exact h4 i (by omega) g2, h5⟩
            clear HJ hs
            go_wp2
            go_roundw
            case rel => exact ⟨q, z, by omega, by simp, rfl, HF⟩
            case measure => first | (simp [intOf]; done) | (simp [intOf]; omega)
    · obtain rfl : m = k := by omega
      obtain ⟨va2, vc2, ev⟩ : ∃ ao cap, u7 = .slice ao m cap := by
        obtain ⟨a, c, e, _⟩ := HH.out.1.form
        rw [fints_len] at e
        exact ⟨a, c, e⟩
      subst ev
      have H6 : Hid (Blk wr p4 #[.int .i64 0, .slice none 0 0] 31 ∧ Below w.heap.size w wr) := ⟨H3.out.1.old HH.out.2, H3.out.2.trans (HH.out.2.mono H3.out.2.size)⟩
      have e0 := H6.out.1.cell (j := 0) rfl
      have e1 := H6.out.1.cell (j := 1) rfl
      have ef : ∀ j, wr.frozen? ⟨p4, j, none⟩ = false := fun j => H6.out.1.frozen j
      obtain ⟨w4, hw4⟩ : ∃ W, W = (wr.setCell ⟨p4, 0, none⟩ (.int .i64 0)).setCell ⟨p4, 1, none⟩ (.slice va2 m vc2) := ⟨_, rfl⟩
      have H4 : Hid (Blk w4 p4 #[.int .i64 0, .slice va2 m vc2] 31 ∧ Below w.heap.size w w4 ∧ OwnI w.heap.size w4.heap.size w4 0 (.slice va2 m vc2) (fints (pnt S X n Q) m) ∧ w4 = (wr.setCell ⟨p4, 0, none⟩ (.int .i64 0)).setCell ⟨p4, 1, none⟩ (.slice va2 m vc2)) := by
        refine ⟨by rw [hw4]; exact (H6.out.1.set 0 _ rfl).set 1 _ rfl, by rw [hw4]; exact (H6.out.2.setCell H1.out.2.2 _).setCell H1.out.2.2 _, ?_, hw4⟩
        have hz4 : w4.heap.size = wr.heap.size := by rw [hw4]; simp
        refine OwnI.of ((HH.out.1.keepOn fun g hg => ?_).low H3.out.2.size) (Nat.le_refl _)
        have hpg : g ≠ p4 := by have := (HH.out.1.lt g hg).1; have := H3.out.1.lt; omega
        rw [hw4, Below.heap_setCell _ _ _ _ (by simpa using hpg), Below.heap_setCell _ _ _ _ (by simpa using hpg)]
      clear hw4
      go_wp2_with fail
      rw [← H4.out.2.2.2]
      have s0 := H4.out.1.cell (j := 0) rfl
      have s1 := H4.out.1.cell (j := 1) rfl
      refine bodyPost_ret (v := .agg #[.int .i64 0, .slice va2 m vc2]) (by simp [results, Try.results43, go_sem, s0, s1]) rfl (by rw [HPC.out]; exact ⟨_, rfl, H4.out.2.2.1, H4.out.2.1⟩)
end Go.Proofs.Ytclnmikneomccaa
