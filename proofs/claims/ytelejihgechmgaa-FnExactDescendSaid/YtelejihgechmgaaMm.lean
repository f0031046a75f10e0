/- The merit at a point, in both packages: contracts. -/
import Derived.Test.YtelejihgechmgaaMf
namespace Go.Proofs.Ytelejihgechmgaa
open Go.RowKit
set_option linter.unusedVariables false
set_option linter.unusedSimpArgs false
theorem lst2 (W : World) (x y : Int) : RdRow (W.alloc (.cells #[.int .i64 x, .int .i64 y] 2)) (.slice (some ⟨W.heap.size, 0, none⟩) 2 2) 2 (Mt.at4 x y 0 0) :=
  Or.inr ⟨W.heap.size, 0, 2, rfl, fun i hi => by
    rcases (show i = 0 ∨ i = 1 by omega) with rfl | rfl
    · go_simp
      rfl
    · go_simp
      rfl⟩
set_option maxRecDepth 20000 in
set_option maxHeartbeats 6400000 in
theorem sMerit_any {w : World} {ao qo : Option Addr} {n d cap qc : Nat} {L : Nat → Li} {P : Nat → Int} {q m : Int} (hq : q = Mt.tcode L n d P) (hm : m = Mt.merit L n d P) (h : RdL w (.slice ao n cap) n L) (hp : RdRow w (.slice qo d qc) d P) (hn : n ≤ 1048576) (hd : d ≤ 1048576) :
    Calls Try.prog 33 #[.slice ao n cap, .slice qo d qc] w fun e w' => e = .returned (.agg #[.int .i64 q, .int .i64 m]) ∧ Below w.heap.size w w' := by
  have H : ∀ W, Below w.heap.size w W → Hid (RdL W (.slice ao n cap) n L ∧ RdRow W (.slice qo d qc) d P) := fun W hb => ⟨h.later hb, hp.later hb⟩
  have bad : ∀ z : Int, z ≠ 0 → Mt.tcode L n d P = z → q = z ∧ m = 0 := fun z hz e => ⟨hq.trans e, by rw [hm]; unfold Mt.merit; rw [if_neg (by rw [e]; exact hz)]⟩
  have fine : Mt.tcode L n d P = 0 → q = 0 ∧ m = Mt.sq L d P n := fun e => ⟨hq.trans e, by rw [hm]; unfold Mt.merit; rw [if_pos e]⟩
  replace bad : Hid _ := bad
  replace fine : Hid _ := fine
  obtain ⟨c, hc⟩ : ∃ c, c = Mt.acode L n d := ⟨_, rfl⟩
  have HC : Hid (c = Mt.acode L n d ∧ q = Mt.tcode L n d P) := ⟨hc, hq⟩
  have hnI : (n : Int) ≤ 1048576 := by omega
  have hdI : (d : Int) ≤ 1048576 := by omega
  obtain ⟨X, hX⟩ : ∃ X, X = w.alloc (.cells #[.int .i64 0, .int .i64 0] 36) := ⟨_, rfl⟩
  have BX : Hid (Blk X w.heap.size #[.int .i64 0, .int .i64 0] 36 ∧ Below w.heap.size w X) := by rw [hX]; exact ⟨Blk.new rfl, (Below.refl _ _).alloc (Nat.le_refl _) _⟩
  have hX1 : w.heap.size < X.heap.size := BX.out.1.lt
  have HA : Calls Try.prog 29 #[.slice ao n cap, .int .i64 (d : Int)] X fun e w' => e = .returned (.int .i64 c) ∧ X = w' := by rw [hc]; exact sAims_any (H X BX.out.2).out.1 hn
  clear hc hq hm h hp
  by_cases hz : c = 0
  case neg =>
    obtain ⟨rfl, rfl⟩ := bad.out c hz (by unfold Mt.tcode; rw [if_neg (by rw [← HC.out.1]; exact hz), HC.out.1])
    have hb : (q != 0) = true := by simpa using hz
    clear H hz
    go_enter Try.func33, Try.ntmps33
    go_wp2_with fail
    rw [← hX]
    clear hX
    go_upto_region 3 with (first | (go_at_call 29; refine HA.mono ?_; rintro e w1 ⟨rfl, rfl⟩))
    have r0 := (BX.out.1.old (Below.refl _ _)).cell (j := 0) (v := .int .i64 0) rfl
    have r1 := (BX.out.1.old (Below.refl _ _)).cell (j := 1) (v := .int .i64 0) rfl
    have rf := (BX.out.1.old (Below.refl _ _)).frozen
    have HBR : Hid (Blk ((X.setCell ⟨w.heap.size, 0, none⟩ (.int .i64 q)).setCell ⟨w.heap.size, 1, none⟩ (.int .i64 0)) w.heap.size #[.int .i64 q, .int .i64 0] 36 ∧ Below w.heap.size w ((X.setCell ⟨w.heap.size, 0, none⟩ (.int .i64 q)).setCell ⟨w.heap.size, 1, none⟩ (.int .i64 0))) := ⟨((BX.out.1.old (Below.refl _ _)).set 0 _ rfl).set 1 _ rfl, ((BX.out.2.trans ((Below.refl _ _).mono (Nat.le_of_lt hX1))).setCell (Nat.le_refl _) _).setCell (Nat.le_refl _) _⟩
    go_wp2_with fail
    have s0 := HBR.out.1.cell (j := 0) (v := .int .i64 q) rfl
    have s1 := HBR.out.1.cell (j := 1) (v := .int .i64 0) rfl
    refine bodyPost_ret (v := .agg #[.int .i64 q, .int .i64 0]) ?_ rfl ⟨rfl, HBR.out.2⟩
    simp [results, Try.results33, go_sem, s0, s1]
  case pos =>
  subst hz
  have G : Hid (Mt.AGood L n d) := Mt.agood HC.out.1.symm
  have hd10 : d ≤ 10 := G.out.d10
  have hT : Hid (Mt.tcode L n d P = if Mt.place P d then 0 else 3) := by show _ = _; unfold Mt.tcode; rw [if_pos HC.out.1.symm]
  go_enter Try.func33, Try.ntmps33
  go_wp2_with fail
  rw [← hX]
  clear hX
  go_wp2_with (first | (go_at_call 29; refine HA.mono ?_; rintro e w1 ⟨rfl, rfl⟩))
  clear HA
  go_loopw [6] (fun i wr => wr = X ∧ ∃ k : Nat, k ≤ d ∧ i = .int .i64 k ∧ Hid (Mt.all (fun k => Mt.inR (P k) (-10000) 10000) k = true)) (fun i _ => d - (intOf i).toNat)
  case atStart => exact ⟨rfl, 0, Nat.zero_le _, rfl, rfl⟩
  case round =>
    obtain ⟨rfl, k, hk, rfl, HF⟩ := hrel
    by_cases hkn : k < d
    · obtain ⟨b, off, rfl, hcp⟩ := (H wr BX.out.2).out.2.at hkn
      obtain ⟨v, hv⟩ : ∃ v, v = P k := ⟨_, rfl⟩
      rw [← hv] at hcp
      have HV : Hid (v = P k) := hv
      have hkI : (k : Int) < d := by omega
      clear hv H
      cases hj : Mt.inR v (-10000) 10000 with
      | true =>
        have HF2 : Hid (Mt.all (fun k => Mt.inR (P k) (-10000) 10000) (k + 1) = true) := Mt.all_next HF.out (by show Mt.inR (P k) (-10000) 10000 = true; rw [← HV.out]; exact hj)
        go_wp2_with (first | (go_at_call 55; refine (sIn_any v (-10000) 10000 _).mono ?_; rintro e w1 ⟨rfl, rfl⟩; rw [hj]))
        go_roundw
        case rel => exact ⟨by trivial, k + 1, by omega, by simp, HF2⟩
        case measure => simp [intOf]; omega
      | false =>
        have hA : Mt.place P d = false := Mt.all_hit hkn (by show Mt.inR (P k) (-10000) 10000 = false; rw [← HV.out]; exact hj)
        obtain ⟨rfl, rfl⟩ := bad.out 3 (by decide) (by rw [hT.out, hA]; rfl)
        clear hA
        go_upto_region 8 with (first | (go_at_call 55; refine (sIn_any v (-10000) 10000 _).mono ?_; rintro e w1 ⟨rfl, rfl⟩; rw [hj]))
        clear hcp
        have r0 := (BX.out.1.old (Below.refl _ _)).cell (j := 0) (v := .int .i64 0) rfl
        have r1 := (BX.out.1.old (Below.refl _ _)).cell (j := 1) (v := .int .i64 0) rfl
        have rf := (BX.out.1.old (Below.refl _ _)).frozen
        have HBR : Hid (Blk ((wr.setCell ⟨w.heap.size, 0, none⟩ (.int .i64 3)).setCell ⟨w.heap.size, 1, none⟩ (.int .i64 0)) w.heap.size #[.int .i64 3, .int .i64 0] 36 ∧ Below w.heap.size w ((wr.setCell ⟨w.heap.size, 0, none⟩ (.int .i64 3)).setCell ⟨w.heap.size, 1, none⟩ (.int .i64 0))) := ⟨((BX.out.1.old (Below.refl _ _)).set 0 _ rfl).set 1 _ rfl, ((BX.out.2.trans ((Below.refl _ _).mono (Nat.le_of_lt hX1))).setCell (Nat.le_refl _) _).setCell (Nat.le_refl _) _⟩
        go_wp2_with fail
        have s0 := HBR.out.1.cell (j := 0) (v := .int .i64 3) rfl
        have s1 := HBR.out.1.cell (j := 1) (v := .int .i64 0) rfl
        refine bodyPost_ret (v := .agg #[.int .i64 3, .int .i64 0]) ?_ rfl ⟨rfl, HBR.out.2⟩
        simp [results, Try.results33, go_sem, s0, s1]
    · obtain rfl : d = k := by omega
      have HPl : Hid (Mt.place P d = true) := HF.out
      obtain ⟨rfl, hm⟩ := fine.out (by rw [hT.out, HPl.out]; rfl)
      have HM : Hid (m = Mt.sq L d P n) := hm
      have HG : Hid (Mt.AGood L n d ∧ ∀ k, k < d → -12000 ≤ P k ∧ P k ≤ 12000) := ⟨G.out, Mt.place_at HPl.out⟩
      have hn20 : (n : Int) ≤ 20 := by have := G.out.n20; omega
      clear hm bad fine
      obtain ⟨Z, rfl⟩ : ∃ Z, Z = wr := ⟨_, rfl⟩
      go_upto_region 9 with fail
      go_wp2_with fail
      go_loopw [7, 8] (fun u i wr => ∃ k : Nat, k ≤ n ∧ i = .int .i64 k ∧ u = .int .i64 (Mt.sq L d P k) ∧ Hid (Below Z.heap.size Z wr)) (fun _ i _ => n - (intOf i).toNat)
      case atStart => exact ⟨0, Nat.zero_le _, rfl, rfl, Below.refl _ _⟩
      case round =>
        obtain ⟨k, hk, rfl, rfl, HB⟩ := hrel
        obtain ⟨s, hs⟩ : ∃ s, s = Mt.sq L d P k := ⟨_, rfl⟩
        have HBw : Hid (Below w.heap.size w wr) := BX.out.2.trans (HB.out.mono BX.out.2.size)
        by_cases hkn : k < n
        · obtain ⟨b, off, po, pc, rfl, hc, hp⟩ := (H wr HBw.out).out.1.at hkn
          obtain ⟨x, hx⟩ : ∃ x, x = L k := ⟨_, rfl⟩
          rw [HG.out.1.np k hkn, ← hx] at hc hp
          have c0 : wr.cell? ⟨b, off + k * 2, none⟩ = some (.slice po d pc) := hc 0 (by omega)
          have c1 : wr.cell? ⟨b, off + k * 2 + 1, none⟩ = some (.int .i64 x.want) := hc 1 (by omega)
          obtain ⟨f, hf⟩ : ∃ f, f = Mt.off x P d := ⟨_, rfl⟩
          have HCl : ∀ W, Below wr.heap.size wr W → Calls Try.prog 70 #[.agg #[.slice po d pc, .int .i64 x.want], .slice qo d qc] W fun e w' => e = .returned (.int .i64 f) ∧ Below W.heap.size W w' := fun W hb => by
            rw [hf]
            exact sOff_any (by rw [hx]; exact one_good HG.out.1 hkn) HG.out.2 (hp.later hb) ((H wr HBw.out).out.2.later hb)
          obtain ⟨p, hp2⟩ : ∃ p, p = f * f := ⟨_, rfl⟩
          have hpb := Mt.sqr_b HG.out.1 (i := k) hkn HG.out.2
          rw [← hx, ← hf, ← hp2] at hpb
          have hsb := Mt.sq_b HG.out.1 HG.out.2 (Nat.le_of_lt hkn)
          rw [← hs] at hsb
          have hkk : (k : Int) ≤ 20 := by have := HG.out.1.n20; omega
          have hw1 : wrap64 (f * f) = p := by rw [← hp2]; unfold wrap64; omega
          obtain ⟨s2, hs2⟩ : ∃ q, q = s + p := ⟨_, rfl⟩
          have hw2 : wrap64 (s + p) = s2 := by rw [hs2]; unfold wrap64; omega
          have HN : Hid (Mt.sq L d P (k + 1) = s2) := by show Mt.sq L d P k + Mt.off (L k) P d * Mt.off (L k) P d = s2; rw [← hs, ← hx, ← hf, ← hp2, hs2]
          have hkI : (k : Int) < n := by omega
          rw [← hs]
          clear hc hp hf hp2 hpb hsb hs2 hs H hx
          go_wp2_with (first | (go_at_call 70; refine (HCl _ (by go_grown)).mono ?_; rintro e w3 ⟨rfl, hb3⟩))
          go_roundw
          case rel => exact ⟨k + 1, by omega, by simp, by rw [HN.out, hw2], HB.out.trans (hb3.mono HB.out.size)⟩
          case measure => simp [intOf]; omega
        · obtain rfl : n = k := by omega
          have hC : m = s := by rw [hs]; exact HM.out
          rw [← hs, ← hC]
          clear hs hC H
          go_upto_region 15 with fail
          have hX1 : w.heap.size < Z.heap.size := BX.out.1.lt
          have r0 := (BX.out.1.old HB.out).cell (j := 0) (v := .int .i64 0) rfl
          have r1 := (BX.out.1.old HB.out).cell (j := 1) (v := .int .i64 0) rfl
          have rf := (BX.out.1.old HB.out).frozen
          have HBR : Hid (Blk ((wr.setCell ⟨w.heap.size, 0, none⟩ (.int .i64 0)).setCell ⟨w.heap.size, 1, none⟩ (.int .i64 m)) w.heap.size #[.int .i64 0, .int .i64 m] 36 ∧ Below w.heap.size w ((wr.setCell ⟨w.heap.size, 0, none⟩ (.int .i64 0)).setCell ⟨w.heap.size, 1, none⟩ (.int .i64 m))) := ⟨((BX.out.1.old HB.out).set 0 _ rfl).set 1 _ rfl, ((BX.out.2.trans (HB.out.mono (Nat.le_of_lt hX1))).setCell (Nat.le_refl _) _).setCell (Nat.le_refl _) _⟩
          go_wp2_with fail
          have s0 := HBR.out.1.cell (j := 0) (v := .int .i64 0) rfl
          have s1 := HBR.out.1.cell (j := 1) (v := .int .i64 m) rfl
          refine bodyPost_ret (v := .agg #[.int .i64 0, .int .i64 m]) ?_ rfl ⟨rfl, HBR.out.2⟩
          simp [results, Try.results33, go_sem, s0, s1]
set_option maxRecDepth 20000 in
set_option maxHeartbeats 6400000 in
theorem iMerit_any {w : World} {ao qo : Option Addr} {n d cap qc : Nat} {L : Nat → Li} {P : Nat → Int} {q m : Int} (hq : q = Mt.tcode L n d P) (hm : m = Mt.merit L n d P) (h : RdL w (.slice ao n cap) n L) (hp : RdRow w (.slice qo d qc) d P) (hn : n ≤ 1048576) (hd : d ≤ 1048576) :
    Calls Try.prog 35 #[.slice ao n cap, .slice qo d qc] w fun e w' => e = .returned (.agg #[.int .i64 q, .int .i64 m]) ∧ Below w.heap.size w w' := by
  have H : ∀ W, Below w.heap.size w W → Hid (RdL W (.slice ao n cap) n L ∧ RdRow W (.slice qo d qc) d P) := fun W hb => ⟨h.later hb, hp.later hb⟩
  have bad : ∀ z : Int, z ≠ 0 → Mt.tcode L n d P = z → q = z ∧ m = 0 := fun z hz e => ⟨hq.trans e, by rw [hm]; unfold Mt.merit; rw [if_neg (by rw [e]; exact hz)]⟩
  have fine : Mt.tcode L n d P = 0 → q = 0 ∧ m = Mt.sq L d P n := fun e => ⟨hq.trans e, by rw [hm]; unfold Mt.merit; rw [if_pos e]⟩
  replace bad : Hid _ := bad
  replace fine : Hid _ := fine
  obtain ⟨c, hc⟩ : ∃ c, c = Mt.acode L n d := ⟨_, rfl⟩
  have HC : Hid (c = Mt.acode L n d ∧ q = Mt.tcode L n d P) := ⟨hc, hq⟩
  have hnI : (n : Int) ≤ 1048576 := by omega
  have hdI : (d : Int) ≤ 1048576 := by omega
  obtain ⟨X, hX⟩ : ∃ X, X = w.alloc (.cells #[.int .i64 0, .int .i64 0] 36) := ⟨_, rfl⟩
  have BX : Hid (Blk X w.heap.size #[.int .i64 0, .int .i64 0] 36 ∧ Below w.heap.size w X) := by rw [hX]; exact ⟨Blk.new rfl, (Below.refl _ _).alloc (Nat.le_refl _) _⟩
  have hX1 : w.heap.size < X.heap.size := BX.out.1.lt
  have HA : Calls Try.prog 31 #[.slice ao n cap, .int .i64 (d : Int)] X fun e w' => e = .returned (.int .i64 c) ∧ Below X.heap.size X w' := by rw [hc]; exact iAims_any (H X BX.out.2).out.1 hn
  obtain ⟨p, hpl⟩ : ∃ p : Int, p = if Mt.place P d then 0 else 3 := ⟨_, rfl⟩
  have HPf : ∀ W, Below X.heap.size X W → Calls Try.prog 71 #[.slice qo d qc] W fun e w' => e = .returned (.int .i64 p) ∧ Below W.heap.size W w' := fun W hb => iPlace_any hpl (H W (BX.out.2.trans (hb.mono (Nat.le_of_lt hX1)))).out.2 hd
  have HE : Hid (Mt.fst (Mt.at4 c p 0 0) 2 = q) := by
    show _ = q
    rw [HC.out.2, Mt.fst2, hpl, hc]
    rfl
  have HO : ∀ W : World, Calls Try.prog 61 #[.slice (some ⟨W.heap.size, 0, none⟩) 2 2] (W.alloc (.cells #[.int .i64 c, .int .i64 p] 2)) fun e w' => e = .returned (.int .i64 q) ∧ Below (W.alloc (.cells #[.int .i64 c, .int .i64 p] 2)).heap.size (W.alloc (.cells #[.int .i64 c, .int .i64 p] 2)) w' := fun W => by
    rw [← HE.out]
    exact or_any (lst2 W c p) (by omega)
  have HP : Hid (p = if Mt.place P d then 0 else 3) := hpl
  clear hpl hc hq hm h hp HE
  go_enter Try.func35, Try.ntmps35
  go_wp2_with fail
  rw [← hX]
  clear hX
  go_upto_region 2 with (first | (go_at_call 31; refine HA.mono ?_; rintro e w1 ⟨rfl, hb1⟩) | (go_at_call 71; refine (HPf _ hb1).mono ?_; rintro e w2 ⟨rfl, hb2⟩) | (go_at_call 61; refine (HO _).mono ?_; rintro e w3 ⟨rfl, hb3⟩))
  have HB : Hid (Below X.heap.size X w3) := by
    refine box_step ?_ hb3 (by go_size)
    exact (hb1.trans (hb2.mono hb1.size)).alloc (hb1.trans (hb2.mono hb1.size)).size _
  clear HA HPf HO hb1 hb2 hb3
  by_cases hz : q = 0
  case neg =>
    obtain ⟨-, rfl⟩ := bad.out q hz HC.out.2.symm
    have hb : (q != 0) = true := by simpa using hz
    clear H hz
    go_upto_region 3 with fail
    have r0 := (BX.out.1.old HB.out).cell (j := 0) (v := .int .i64 0) rfl
    have r1 := (BX.out.1.old HB.out).cell (j := 1) (v := .int .i64 0) rfl
    have rf := (BX.out.1.old HB.out).frozen
    have HBR : Hid (Blk ((w3.setCell ⟨w.heap.size, 0, none⟩ (.int .i64 q)).setCell ⟨w.heap.size, 1, none⟩ (.int .i64 0)) w.heap.size #[.int .i64 q, .int .i64 0] 36 ∧ Below w.heap.size w ((w3.setCell ⟨w.heap.size, 0, none⟩ (.int .i64 q)).setCell ⟨w.heap.size, 1, none⟩ (.int .i64 0))) := ⟨((BX.out.1.old HB.out).set 0 _ rfl).set 1 _ rfl, ((BX.out.2.trans (HB.out.mono (Nat.le_of_lt hX1))).setCell (Nat.le_refl _) _).setCell (Nat.le_refl _) _⟩
    go_wp2_with fail
    have s0 := HBR.out.1.cell (j := 0) (v := .int .i64 q) rfl
    have s1 := HBR.out.1.cell (j := 1) (v := .int .i64 0) rfl
    refine bodyPost_ret (v := .agg #[.int .i64 q, .int .i64 0]) ?_ rfl ⟨rfl, HBR.out.2⟩
    simp [results, Try.results35, go_sem, s0, s1]
  case pos =>
    subst hz
    have ht : Mt.tcode L n d P = 0 := HC.out.2.symm
    have hac : Mt.acode L n d = 0 := by
      by_cases e : Mt.acode L n d = 0
      · exact e
      · unfold Mt.tcode at ht
        rw [if_neg e] at ht
        exact absurd ht e
    have hpl : Mt.place P d = true := by
      unfold Mt.tcode at ht
      rw [if_pos hac] at ht
      by_cases e : Mt.place P d = true
      · exact e
      · rw [if_neg e] at ht
        exact absurd ht (by decide)
    have hmm := (fine.out ht).2
    have HCl := iMeritOf_any (w := w3) hmm (Mt.agood hac) (Mt.place_at hpl) (H w3 (BX.out.2.trans (HB.out.mono (Nat.le_of_lt hX1)))).out.1 (H w3 (BX.out.2.trans (HB.out.mono (Nat.le_of_lt hX1)))).out.2
    clear ht hac hpl hmm bad fine H
    go_upto_region 4 with fail
    have r0 := (BX.out.1.old HB.out).cell (j := 0) (v := .int .i64 0) rfl
    go_wp2_with (first | (go_at_call 72; refine HCl.mono ?_; rintro e w4 ⟨rfl, hb4⟩; have HB4 : Hid (Below X.heap.size X w4) := HB.out.trans (hb4.mono HB.out.size); have z0 := (BX.out.1.old HB4.out).cell (j := 0) (v := .int .i64 0) rfl; have z1 := (BX.out.1.old HB4.out).cell (j := 1) (v := .int .i64 0) rfl; have zf := (BX.out.1.old HB4.out).frozen))
    have HBR : Hid (Blk ((w4.setCell ⟨w.heap.size, 0, none⟩ (.int .i64 0)).setCell ⟨w.heap.size, 1, none⟩ (.int .i64 m)) w.heap.size #[.int .i64 0, .int .i64 m] 36 ∧ Below w.heap.size w ((w4.setCell ⟨w.heap.size, 0, none⟩ (.int .i64 0)).setCell ⟨w.heap.size, 1, none⟩ (.int .i64 m))) := ⟨((BX.out.1.old HB4.out).set 0 _ rfl).set 1 _ rfl, ((BX.out.2.trans (HB4.out.mono (Nat.le_of_lt hX1))).setCell (Nat.le_refl _) _).setCell (Nat.le_refl _) _⟩
    have s0 := HBR.out.1.cell (j := 0) (v := .int .i64 0) rfl
    have s1 := HBR.out.1.cell (j := 1) (v := .int .i64 m) rfl
    refine bodyPost_ret (v := .agg #[.int .i64 0, .int .i64 m]) ?_ rfl ⟨rfl, HBR.out.2⟩
    simp [results, Try.results35, go_sem, s0, s1]
end Go.Proofs.Ytelejihgechmgaa
