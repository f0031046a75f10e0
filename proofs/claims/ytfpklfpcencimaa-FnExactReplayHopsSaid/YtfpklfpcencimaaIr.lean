/- The program's ReplayHops: contract. -/
import Derived.Test.YtfpklfpcencimaaFz
import Derived.Test.YtfpklfpcencimaaWw
import Derived.Test.YtfpklfpcencimaaHp
namespace Go.Proofs.Ytfpklfpcencimaa
open Go.RowKit
set_option linter.unusedVariables false
set_option linter.unusedSimpArgs false
set_option maxRecDepth 20000 in
set_option maxHeartbeats 3200000 in
theorem iRep_any {w : World} {ao bo : Option Addr} {nf cp nh ch : Nat} {nodes slots a0 fr tt a3 a4 c : Int} {F H : Nat → Fb} (hc : c = rcode nodes slots nf F fr tt nh H) (h : Rf w (.slice ao nf cp) nf F) (hh : Rf w (.slice bo nh ch) nh H) (hcp : nf ≤ cp) (hf : nf ≤ 1048576) (hn : nh ≤ 1048576) :
    Calls Try.prog 18 #[.agg #[.int .i64 nodes, .int .i64 slots, .slice ao nf cp], .agg #[.int .i64 a0, .int .i64 fr, .int .i64 tt, .int .i64 a3, .int .i64 a4], .slice bo nh ch] w fun e w' => ∃ l, e = .returned (.agg #[.int .i64 c, l]) ∧ OwnI w.heap.size w'.heap.size w' c l (rlist nf F fr nh H) ∧ Below w.heap.size w w' := by
  obtain ⟨X, hX⟩ : ∃ X, X = ((w.alloc (.cells #[.int .i64 nodes, .int .i64 slots, .slice ao nf cp] 32)).alloc (.cells #[.int .i64 a0, .int .i64 fr, .int .i64 tt, .int .i64 a3, .int .i64 a4] 47)).alloc (.cells #[.int .i64 0, .slice none 0 0] 45) := ⟨_, rfl⟩
  have BX : Hid (Blk X w.heap.size #[.int .i64 nodes, .int .i64 slots, .slice ao nf cp] 32 ∧ Blk X (w.heap.size + 1) #[.int .i64 a0, .int .i64 fr, .int .i64 tt, .int .i64 a3, .int .i64 a4] 47 ∧ Blk X (w.heap.size + 1 + 1) #[.int .i64 0, .slice none 0 0] 45 ∧ Below w.heap.size w X) := by
    rw [hX]
    exact ⟨((Blk.new rfl).alloc _).alloc _, (Blk.new (by simp)).alloc _, Blk.new (by simp), (((Below.refl _ _).alloc (Nat.le_refl _) _).alloc (by simp) _).alloc (by simp; omega) _⟩
  have hXz : w.heap.size + 1 + 1 < X.heap.size := BX.out.2.2.1.lt
  have HF : ∀ W, Below X.heap.size X W → Hid (Rf W (.slice ao nf cp) nf F ∧ Rf W (.slice bo nh ch) nh H) := fun W hb => ⟨h.later (BX.out.2.2.2.trans (hb.mono (by omega))), hh.later (BX.out.2.2.2.trans (hb.mono (by omega)))⟩
  have HC : Hid (c = rcode nodes slots nf F fr tt nh H) := hc
  have hnI : (nh : Int) ≤ 1048576 := by omega
  clear h hh hc
  have y0 := BX.out.1.cell (j := 0) (v := .int .i64 nodes) rfl
  have y1 := BX.out.1.cell (j := 1) (v := .int .i64 slots) rfl
  have y2 := BX.out.1.cell (j := 2) (v := .slice ao nf cp) rfl
  have n1 := BX.out.2.1.cell (j := 1) (v := .int .i64 fr) rfl
  have n2 := BX.out.2.1.cell (j := 2) (v := .int .i64 tt) rfl
  go_enter Try.func18, Try.ntmps18
  go_wp2_with fail
  rw [← hX]
  clear hX
  go_wp2_with fail
  refine (iEf_any fr tt (HF _ (Below.refl _ _)).out.1 hcp hf).mono ?_
  rintro e w1 ⟨rfl, hb1⟩
  have H1 : Hid (Below X.heap.size X w1) := hb1
  have hx1 : X.heap.size ≤ w1.heap.size := hb1.size
  clear hb1 y0 y1 y2 n1 n2
  have y0 := (BX.out.1.old H1.out).cell (j := 0) (v := .int .i64 nodes) rfl
  have y1 := (BX.out.1.old H1.out).cell (j := 1) (v := .int .i64 slots) rfl
  have y2 := (BX.out.1.old H1.out).cell (j := 2) (v := .slice ao nf cp) rfl
  have n1 := (BX.out.2.1.old H1.out).cell (j := 1) (v := .int .i64 fr) rfl
  have r0 := (BX.out.2.2.1.old H1.out).cell (j := 0) (v := .int .i64 0) rfl
  have r1 := (BX.out.2.2.1.old H1.out).cell (j := 1) (v := .slice none 0 0) rfl
  have rf := (BX.out.2.2.1.old H1.out).frozen
  obtain ⟨d, hd⟩ : ∃ d, d = Nt.efault nodes slots nf F fr tt := ⟨_, rfl⟩
  have HD : Hid (d = Nt.efault nodes slots nf F fr tt) := hd
  rw [← hd]
  clear hd
  by_cases hz : d = 0
  · subst hz
    have HE := Nt.ef_good HD.out.symm
    have HG : Hid (Nt.Good nodes slots nf F) := Nt.nf_good HE.1
    clear HE r0 r1 rf
    go_wp2_with fail
    refine (wayFrom_any fr).mono ?_
    rintro e w2 ⟨g, c0, c1, c2, rfl, hol, hg, q0, q1, q2, d01, d02, d12, l0, l1, l2, hb2⟩
    obtain ⟨w3, hw3⟩ : ∃ W, W = w2.alloc (.cells #[.int .i64 nodes, .int .i64 slots, .slice ao nf cp, .slice (some ⟨g, 0, none⟩) 1 1, .slice none 0 0, .chan (some c0), .chan (some c1), .chan (some c2)] 82) := ⟨_, rfl⟩
    have hx2 : w1.heap.size ≤ w2.heap.size := hb2.size
    have H3 : Hid (Wb w3 w1.heap.size w2.heap.size nodes slots ao nf cp (.slice (some ⟨g, 0, none⟩) 1 1) (.slice none 0 0) c0 c1 c2 [fr] [] ∧ Below w1.heap.size w1 w3) := by
      rw [hw3]
      refine ⟨⟨Blk.new rfl, hol.later ((Below.refl _ _).alloc (Nat.le_refl _) _), ⟨by simp [ints], Or.inl ⟨rfl, rfl⟩⟩, fun g _ h => by simp [Value.ownBlock] at h, chn_alloc q0 _, chn_alloc q1 _, chn_alloc q2 _, d01, d02, d12, hx2, l0, l1, l2⟩, hb2.alloc hx2 _⟩
    clear hol hg q0 q1 q2 d01 d02 d12 l0 l1 l2 hb2 y0 y1 y2 n1
    go_wp2_with fail
    rw [← hw3]
    clear hw3
    obtain ⟨lo, hlo⟩ : ∃ l, l = w1.heap.size := ⟨_, rfl⟩
    have HLO : Hid (lo = w1.heap.size) := hlo
    rw [← hlo] at H3 hx1 hx2
    clear hlo
    have HR : ∀ W, Below lo w1 W → Rf W (.slice ao nf cp) nf F := fun W hb => (HF W (H1.out.trans (hb.mono hx1))).out.1
    have HNB : ∀ b off, 0 < nf → ao = some ⟨b, off, none⟩ → b < lo := by
      rintro b off h0 rfl
      obtain ⟨b', off', e, hc⟩ := (HF w1 H1.out).out.1.at h0
      simp only [Option.some.injEq, Addr.mk.injEq] at e
      obtain ⟨rfl, rfl, _⟩ := e
      have := World.block_lt_of_cell? _ _ (hc 0 (by omega))
      rw [HLO.out]
      exact this
    go_loopw [27] (fun i wr => ∃ k : Nat, k ≤ nh ∧ i = .int .i64 k ∧ Hid (∃ ns ps vn vp, rps nf F fr H k = some (ns, ps) ∧ Wb wr lo w2.heap.size nodes slots ao nf cp vn vp c0 c1 c2 ns ps ∧ Below lo w1 wr)) (fun i _ => nh - (intOf i).toNat)
    case atStart => exact ⟨0, Nat.zero_le _, rfl, _, _, _, _, rfl, H3.out.1, H3.out.2⟩
    case round =>
      obtain ⟨k, hk, rfl, ns, ps, vn, vp, hrp, hW, hbl⟩ := hrel
      have HX : Hid (Below X.heap.size X wr) := H1.out.trans (hbl.mono hx1)
      have hlr : lo ≤ wr.heap.size := by have := hbl.size; rw [← HLO.out] at this; omega
      have HWY : Hid (Way nf F k ns ps) := rps_way HG.out hrp
      by_cases hkn : k < nh
      · obtain ⟨b, off, rfl, hcl⟩ := (HF wr HX.out).out.2.at hkn
        obtain ⟨p, hp⟩ : ∃ p, p = H k := ⟨_, rfl⟩
        rw [← hp] at hcl
        have f0 : wr.cell? ⟨b, off + k * 3, none⟩ = some (.int .i64 p.a) := hcl 0 (by omega)
        have f1 : wr.cell? ⟨b, off + k * 3 + 1, none⟩ = some (.int .i64 p.b) := hcl 1 (by omega)
        have f2 : wr.cell? ⟨b, off + k * 3 + 2, none⟩ = some (.int .i64 p.km) := hcl 2 (by omega)
        have hkI : (k : Int) < nh := by omega
        obtain ⟨wq, hwq⟩ : ∃ W, W = wr.alloc (.cells #[.int .i64 p.a, .int .i64 p.b, .int .i64 p.km] 70) := ⟨_, rfl⟩
        have HQ : Hid (Blk wq wr.heap.size #[.int .i64 p.a, .int .i64 p.b, .int .i64 p.km] 70 ∧ Wb wq lo w2.heap.size nodes slots ao nf cp vn vp c0 c1 c2 ns ps ∧ Below lo w1 wq) := by
          rw [hwq]
          exact ⟨Blk.new rfl, hW.later ((Below.refl _ _).alloc (Nat.le_refl _) _), hbl.alloc hlr _⟩
        have hlq : lo ≤ wq.heap.size := by have := HQ.out.2.2.size; rw [← HLO.out] at this; omega
        have HP : Hid (p = H k ∧ rps nf F fr H k = some (ns, ps)) := ⟨hp, hrp⟩
        have hnl : ns.length ≤ 1048576 := by have := HWY.out.len; have := HWY.out.few; omega
        have hpl : ps.length ≤ 1048576 := by have := HWY.out.few; omega
        have hn0 : ns ≠ [] := by rintro rfl; have := HWY.out.len; simp at this
        clear hW hbl hcl hp hrp
        go_wp2_with fail
        rw [← hwq]
        clear hwq f0 f1 f2
        have g0 := HQ.out.1.cell (j := 0) (v := .int .i64 p.a) rfl
        have g1 := HQ.out.1.cell (j := 1) (v := .int .i64 p.b) rfl
        have g2 := HQ.out.1.cell (j := 2) (v := .int .i64 p.km) rfl
        go_wp2_with fail
        refine (allows_any p.a p.b p.km HQ.out.2.1 hn0 hnl hpl (HR _ HQ.out.2.2) hf).mono ?_
        rintro e w5 ⟨rfl, hb5⟩
        have H5 : Hid (Blk w5 wr.heap.size #[.int .i64 p.a, .int .i64 p.b, .int .i64 p.km] 70 ∧ Wb w5 lo w2.heap.size nodes slots ao nf cp vn vp c0 c1 c2 ns ps ∧ Below lo w1 w5) := ⟨HQ.out.1.old hb5, HQ.out.2.1.later hb5, HQ.out.2.2.trans (hb5.mono hlq)⟩
        have hl5 : lo ≤ w5.heap.size := by have := hb5.size; omega
        clear hb5 g0 g1 g2
        obtain ⟨al, hal⟩ : ∃ a, a = alw nf F ns ps p.a p.b p.km := ⟨_, rfl⟩
        have HAL : Hid (al = alw nf F ns ps p.a p.b p.km) := hal
        rw [← hal]
        clear hal
        cases al with
        | false =>
          have HX5 : Hid (Below X.heap.size X w5) := H1.out.trans (H5.out.2.2.mono hx1)
          have E : Hid (c = 1) := by
            show c = 1
            rw [HC.out]
            refine rcode_bad HD.out.symm (rps_no (k := k + 1) (rps_bad HP.out.2 ?_) hkn)
            rw [← HP.out.1]; exact HAL.out.symm
          obtain rfl := E.out
          have r0 := (BX.out.2.2.1.old HX5.out).cell (j := 0) (v := .int .i64 0) rfl
          have r1 := (BX.out.2.2.1.old HX5.out).cell (j := 1) (v := .slice none 0 0) rfl
          have rf := (BX.out.2.2.1.old HX5.out).frozen
          have HB : Hid (Blk ((w5.setCell ⟨w.heap.size + 1 + 1, 0, none⟩ (.int .i64 1)).setCell ⟨w.heap.size + 1 + 1, 1, none⟩ (.slice none 0 0)) (w.heap.size + 1 + 1) #[.int .i64 1, .slice none 0 0] 45 ∧ Below w.heap.size w ((w5.setCell ⟨w.heap.size + 1 + 1, 0, none⟩ (.int .i64 1)).setCell ⟨w.heap.size + 1 + 1, 1, none⟩ (.slice none 0 0))) :=
            ⟨((BX.out.2.2.1.old HX5.out).set 0 _ rfl).set 1 _ rfl, ((BX.out.2.2.2.trans (HX5.out.mono (by omega))).setCell (by simp; omega) _).setCell (by simp; omega) _⟩
          go_wp2_with fail
          have s0 := HB.out.1.cell (j := 0) (v := .int .i64 1) rfl
          have s1 := HB.out.1.cell (j := 1) (v := .slice none 0 0) rfl
          refine bodyPost_ret (v := .agg #[.int .i64 1, .slice none 0 0]) ?_ rfl ⟨_, rfl, Or.inl ⟨by omega, rfl⟩, HB.out.2⟩
          simp [results, Try.results18, go_sem, s0, s1]
        | true =>
          have g0 := H5.out.1.cell (j := 0) (v := .int .i64 p.a) rfl
          have g1 := H5.out.1.cell (j := 1) (v := .int .i64 p.b) rfl
          have g2 := H5.out.1.cell (j := 2) (v := .int .i64 p.km) rfl
          go_wp2_with fail
          refine (follow_any H5.out.2.1 hl5 (fun W hb => HR W (H5.out.2.2.trans hb)) HNB HG.out.f14 HWY.out (by omega) HAL.out.symm).mono ?_
          rintro e w6 ⟨vn', vp', rfl, hW6, hb6⟩
          have H6 : Hid (∃ ns' ps' vn' vp', rps nf F fr H (k + 1) = some (ns', ps') ∧ Wb w6 lo w2.heap.size nodes slots ao nf cp vn' vp' c0 c1 c2 ns' ps' ∧ Below lo w1 w6) := by
            refine ⟨_, _, vn', vp', rps_ok HP.out.2 ?_, ?_, H5.out.2.2.trans hb6⟩
            · rw [← HP.out.1]; exact HAL.out.symm
            · rw [← HP.out.1]; exact hW6
          clear hW6 hb6 g0 g1 g2
          go_wp2
          go_roundw
          case rel => exact ⟨k + 1, by omega, by simp, H6⟩
          case measure => simp [intOf]; omega
      · obtain rfl : k = nh := by omega
        have E : Hid (c = 0 ∧ rlist nf F fr k H = ps) := ⟨by rw [HC.out]; exact rcode_ok HD.out.symm hrp, rlist_ok hrp⟩
        obtain ⟨rfl, _⟩ := E.out
        obtain ⟨ap, cq, rfl, _⟩ := hW.pl.form
        have x4 := hW.blk.cell (j := 4) (v := .slice ap ps.length cq) rfl
        have r0 := (BX.out.2.2.1.old HX.out).cell (j := 0) (v := .int .i64 0) rfl
        have r1 := (BX.out.2.2.1.old HX.out).cell (j := 1) (v := .slice none 0 0) rfl
        have rf := (BX.out.2.2.1.old HX.out).frozen
        have HB : Hid (Blk ((wr.setCell ⟨w.heap.size + 1 + 1, 0, none⟩ (.int .i64 0)).setCell ⟨w.heap.size + 1 + 1, 1, none⟩ (.slice ap ps.length cq)) (w.heap.size + 1 + 1) #[.int .i64 0, .slice ap ps.length cq] 45 ∧ Below w.heap.size w ((wr.setCell ⟨w.heap.size + 1 + 1, 0, none⟩ (.int .i64 0)).setCell ⟨w.heap.size + 1 + 1, 1, none⟩ (.slice ap ps.length cq)) ∧ OwnI w.heap.size ((wr.setCell ⟨w.heap.size + 1 + 1, 0, none⟩ (.int .i64 0)).setCell ⟨w.heap.size + 1 + 1, 1, none⟩ (.slice ap ps.length cq)).heap.size ((wr.setCell ⟨w.heap.size + 1 + 1, 0, none⟩ (.int .i64 0)).setCell ⟨w.heap.size + 1 + 1, 1, none⟩ (.slice ap ps.length cq)) 0 (.slice ap ps.length cq) ps) := by
          refine ⟨((BX.out.2.2.1.old HX.out).set 0 _ rfl).set 1 _ rfl, ((BX.out.2.2.2.trans (HX.out.mono (by omega))).setCell (by simp; omega) _).setCell (by simp; omega) _, ?_⟩
          refine OwnI.of ((hW.pl.keepOn fun q hq => ?_).low (by omega)) (Nat.le_refl _)
          have hq2 := (hW.pl.lt q hq).1
          rw [Below.heap_setCell _ _ _ _ (by simp; omega), Below.heap_setCell _ _ _ _ (by simp; omega)]
        clear hW hbl hrp HWY
        go_wp2_with fail
        have s0 := HB.out.1.cell (j := 0) (v := .int .i64 0) rfl
        have s1 := HB.out.1.cell (j := 1) (v := .slice ap ps.length cq) rfl
        refine bodyPost_ret (v := .agg #[.int .i64 0, .slice ap ps.length cq]) ?_ rfl ⟨_, rfl, HB.out.2.2, HB.out.2.1⟩
        simp [results, Try.results18, go_sem, s0, s1]
  · have E : Hid (c = d ∧ d ≠ 0) := by refine ⟨?_, hz⟩; rw [HC.out, rcode_ef (by rw [← HD.out]; exact hz), ← HD.out]
    obtain ⟨rfl, _⟩ := E.out
    have hcb : (c != 0) = true := by simpa using hz
    have HB : Hid (Blk ((w1.setCell ⟨w.heap.size + 1 + 1, 0, none⟩ (.int .i64 c)).setCell ⟨w.heap.size + 1 + 1, 1, none⟩ (.slice none 0 0)) (w.heap.size + 1 + 1) #[.int .i64 c, .slice none 0 0] 45 ∧ Below w.heap.size w ((w1.setCell ⟨w.heap.size + 1 + 1, 0, none⟩ (.int .i64 c)).setCell ⟨w.heap.size + 1 + 1, 1, none⟩ (.slice none 0 0))) :=
      ⟨((BX.out.2.2.1.old H1.out).set 0 _ rfl).set 1 _ rfl, ((BX.out.2.2.2.trans (H1.out.mono (by omega))).setCell (by simp; omega) _).setCell (by simp; omega) _⟩
    clear hz
    go_wp2_with fail
    have s0 := HB.out.1.cell (j := 0) (v := .int .i64 c) rfl
    have s1 := HB.out.1.cell (j := 1) (v := .slice none 0 0) rfl
    refine bodyPost_ret (v := .agg #[.int .i64 c, .slice none 0 0]) ?_ rfl ⟨_, rfl, Or.inl ⟨E.out.2, rfl⟩, HB.out.2⟩
    simp [results, Try.results18, go_sem, s0, s1]
end Go.Proofs.Ytfpklfpcencimaa
