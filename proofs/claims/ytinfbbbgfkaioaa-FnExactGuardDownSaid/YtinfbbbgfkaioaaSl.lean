/- Lights: what is wrong with one, and with a list of them, in the specification: contracts. -/
import Derived.Test.YtinfbbbgfkaioaaLc
import Derived.Test.YtinfbbbgfkaioaaRq
namespace Go.Proofs.Ytinfbbbgfkaioaa
open Go.RowKit
set_option linter.unusedVariables false
set_option linter.unusedSimpArgs false
theorem lc_one {nodes slots : Int} {nf : Nat} {F : Nat → Fb} {L : Nat → Li} {i : Nat} (h : (L i).id < 1 ∨ (0 < i ∧ (L i).id ≤ (L (i - 1)).id)) : Nt.lcode nodes slots nf F L i = 1 := by unfold Nt.lcode; rw [if_pos h]
theorem lc_rf {nodes slots : Int} {nf : Nat} {F : Nat → Fb} {L : Nat → Li} {i : Nat} (h : ¬ ((L i).id < 1 ∨ (0 < i ∧ (L i).id ≤ (L (i - 1)).id))) (k : Nt.rfault nodes slots nf F (L i).fr (L i).tt (L i).np (L i).p ≠ 0) : Nt.lcode nodes slots nf F L i = Nt.rfault nodes slots nf F (L i).fr (L i).tt (L i).np (L i).p := by unfold Nt.lcode; rw [if_neg h, if_neg k]
theorem lc_three {nodes slots : Int} {nf : Nat} {F : Nat → Fb} {L : Nat → Li} {i : Nat} (h : ¬ ((L i).id < 1 ∨ (0 < i ∧ (L i).id ≤ (L (i - 1)).id))) (k : Nt.rfault nodes slots nf F (L i).fr (L i).tt (L i).np (L i).p = 0) (r : Nt.rngB slots (L i) = true) : Nt.lcode nodes slots nf F L i = 3 := by unfold Nt.lcode; rw [if_neg h, if_pos k, if_pos r]
theorem lc_seven {nodes slots : Int} {nf : Nat} {F : Nat → Fb} {L : Nat → Li} {i : Nat} (h : ¬ ((L i).id < 1 ∨ (0 < i ∧ (L i).id ≤ (L (i - 1)).id))) (k : Nt.rfault nodes slots nf F (L i).fr (L i).tt (L i).np (L i).p = 0) (r : Nt.rngB slots (L i) = false) (s : Nt.any (fun k => Nt.meets (L i) (L k)) i = true) : Nt.lcode nodes slots nf F L i = 7 := by unfold Nt.lcode; rw [if_neg h, if_pos k, if_neg (by rw [r]; simp), if_pos s]
theorem lc_nil {nodes slots : Int} {nf : Nat} {F : Nat → Fb} {L : Nat → Li} {i : Nat} (h : ¬ ((L i).id < 1 ∨ (0 < i ∧ (L i).id ≤ (L (i - 1)).id))) (k : Nt.rfault nodes slots nf F (L i).fr (L i).tt (L i).np (L i).p = 0) (r : Nt.rngB slots (L i) = false) (s : Nt.any (fun k => Nt.meets (L i) (L k)) i = false) : Nt.lcode nodes slots nf F L i = 0 := by unfold Nt.lcode; rw [if_neg h, if_pos k, if_neg (by rw [r]; simp), if_neg (by rw [s]; simp)]
set_option maxRecDepth 20000 in
set_option maxHeartbeats 3200000 in
theorem sLit_go {w : World} {ao lo : Option Addr} {nf cp n cl : Nat} {nodes slots : Int} {F : Nat → Fb} {L : Nat → Li} (k : Nat) (hkn : k < n) (h : Rf w (.slice ao nf cp) nf F) (hl : RdL w (.slice lo n cl) n L) (hf : nf ≤ 1048576) (hw : LFew n L) (hN : Nt.nfault nodes slots nf F = 0) (hO : Nt.AllOk nodes slots nf F k L) (hid : ¬ ((L k).id < 1 ∨ (0 < k ∧ (L k).id ≤ (L (k - 1)).id))) :
    Calls Try.prog 96 #[.agg #[.int .i64 nodes, .int .i64 slots, .slice ao nf cp], .slice lo n cl, .int .i64 k] w fun e w' => e = .returned (.int .i64 (Nt.lcode nodes slots nf F L k)) ∧ Below w.heap.size w w' := by
  have hnI : (n : Int) ≤ 1048576 := by have := hw.cn; omega
  obtain ⟨bl, ol, po, pc, rfl, hc, hp⟩ := hl.at hkn
  obtain ⟨x, hx⟩ : ∃ x, x = L k := ⟨_, rfl⟩
  obtain ⟨m, hm⟩ : ∃ m, m = (L k).np := ⟨_, rfl⟩
  have hmb : m ≤ 1048576 := by rw [hm]; exact hw.each hkn
  rw [← hm, ← hx] at hc hp
  have c0 : w.cell? ⟨bl, ol + k * 6, none⟩ = some (.int .i64 x.id) := hc 0 (by omega)
  have c1 : w.cell? ⟨bl, ol + k * 6 + 1, none⟩ = some (.int .i64 x.fr) := hc 1 (by omega)
  have c2 : w.cell? ⟨bl, ol + k * 6 + 2, none⟩ = some (.int .i64 x.tt) := hc 2 (by omega)
  have c3 : w.cell? ⟨bl, ol + k * 6 + 3, none⟩ = some (.slice po m pc) := hc 3 (by omega)
  have c4 : w.cell? ⟨bl, ol + k * 6 + 4, none⟩ = some (.int .i64 x.fi) := hc 4 (by omega)
  have c5 : w.cell? ⟨bl, ol + k * 6 + 5, none⟩ = some (.int .i64 x.wd) := hc 5 (by omega)
  have hbl : bl < w.heap.size := World.block_lt_of_cell? _ _ c0
  have HX : Hid (x = L k ∧ m = (L k).np) := ⟨hx, hm⟩
  have HO : Hid (Nt.AllOk nodes slots nf F k L ∧ Nt.Good nodes slots nf F) := ⟨hO, Nt.nf_good hN⟩
  have hs64 : slots ≤ 64 := HO.out.2.s64
  obtain ⟨Y, hY⟩ : ∃ Y, Y = ((w.alloc (.cells #[.int .i64 nodes, .int .i64 slots, .slice ao nf cp] 37)).alloc (.cells #[.int .i64 x.id, .int .i64 x.fr, .int .i64 x.tt, .slice po m pc, .int .i64 x.fi, .int .i64 x.wd] 80)) := ⟨_, rfl⟩
  have BY : Hid (Blk Y w.heap.size #[.int .i64 nodes, .int .i64 slots, .slice ao nf cp] 37 ∧ Blk Y (w.heap.size + 1) #[.int .i64 x.id, .int .i64 x.fr, .int .i64 x.tt, .slice po m pc, .int .i64 x.fi, .int .i64 x.wd] 80 ∧ Below w.heap.size w Y) := by rw [hY]; exact ⟨(Blk.new rfl).alloc _, Blk.new (by simp), ((Below.refl _ _).alloc (Nat.le_refl _) _).alloc (by simp) _⟩
  have hYz : w.heap.size ≤ Y.heap.size := Nat.le_of_lt BY.out.1.lt
  have CX : ∀ W, Below Y.heap.size Y W → W.cell? ⟨w.heap.size, 0, none⟩ = some (.int .i64 nodes) ∧ W.cell? ⟨w.heap.size, 1, none⟩ = some (.int .i64 slots) ∧ W.cell? ⟨w.heap.size, 2, none⟩ = some (.slice ao nf cp) ∧ W.cell? ⟨w.heap.size + 1, 0, none⟩ = some (.int .i64 x.id) ∧ W.cell? ⟨w.heap.size + 1, 1, none⟩ = some (.int .i64 x.fr) ∧ W.cell? ⟨w.heap.size + 1, 2, none⟩ = some (.int .i64 x.tt) ∧ W.cell? ⟨w.heap.size + 1, 3, none⟩ = some (.slice po m pc) ∧ W.cell? ⟨w.heap.size + 1, 4, none⟩ = some (.int .i64 x.fi) ∧ W.cell? ⟨w.heap.size + 1, 5, none⟩ = some (.int .i64 x.wd) := fun W h => ⟨(BY.out.1.old h).cell rfl, (BY.out.1.old h).cell rfl, (BY.out.1.old h).cell rfl, (BY.out.2.1.old h).cell rfl, (BY.out.2.1.old h).cell rfl, (BY.out.2.1.old h).cell rfl, (BY.out.2.1.old h).cell rfl, (BY.out.2.1.old h).cell rfl, (BY.out.2.1.old h).cell rfl⟩
  have H : ∀ W, Below Y.heap.size Y W → Hid (Rf W (.slice ao nf cp) nf F ∧ RdL W (.slice (some ⟨bl, ol, none⟩) n cl) n L ∧ RdRow W (.slice po m pc) m x.p ∧ LFew n L) := fun W hb => ⟨h.later (BY.out.2.2.trans (hb.mono hYz)), hl.later (BY.out.2.2.trans (hb.mono hYz)), hp.later (BY.out.2.2.trans (hb.mono hYz)), hw⟩
  clear h hl hp hx hm hc hw hO hN
  obtain ⟨C, hC⟩ : ∃ C, C = Nt.lcode nodes slots nf F L k := ⟨_, rfl⟩
  have HC : Hid (C = Nt.lcode nodes slots nf F L k) := hC
  rw [← hC]
  clear hC
  have hkI : (k : Int) < n := by omega
  have hkI2 : (k : Int) ≤ 1048576 := by omega
  have KX0 : ∀ x_ : Kept Y.heap.size Y, x_.w.cell? ⟨w.heap.size + 1, 0, none⟩ = some (.int .i64 x.id) := fun x_ => (BY.out.2.1.old x_.h).cell rfl
  have HID : Hid (¬ ((L k).id < 1 ∨ (0 < k ∧ (L k).id ≤ (L (k - 1)).id))) := hid
  have hid1 : 1 ≤ x.id := by rw [HX.out.1]; omega
  have hd1 : decide (x.id < 1) = false := decide_eq_false (by omega)
  clear hid
  by_cases hk0 : k = 0
  · have hkz : decide ((0 : Int) < (k : Int)) = false := decide_eq_false (by omega)
    have hkz2 : decide (0 < k) = false := decide_eq_false (by omega)
    clear hk0
    go_enter Try.func96, Try.ntmps96
    go_upto_region 2 with fail
    rw [← hY]
    clear hY c0 c1 c2 c3 c4 c5
    go_upto_region 2 with fail
    refine wp_region_kept Y.heap.size (by kernel_rfl) (by kernel_rfl) ?_
    intro hne
    repeat (go_big_quiet_step (fail))
    refine wpQuiet_nil ?_
    rintro u7 ⟨xk, hxk⟩
    have hR1 := xk.h
    rw [← hxk] at hR1
    clear hxk xk hne KX0
    obtain ⟨x0, x1, x2, x3, x4, x5, x6, x7, x8⟩ := CX u7 hR1
    go_wp2_with fail
    refine (sRf_any x.fr x.tt (H _ hR1).out.1 (H _ hR1).out.2.2.1 hf hmb).mono ?_
    rintro e w1 ⟨rfl, hb1⟩
    clear x0 x1 x2 x3 x4 x5 x6 x7 x8
    have HB1 : Hid (Below Y.heap.size Y w1) := hR1.trans (hb1.mono hR1.size)
    clear hb1 hR1
    have HRF : Hid (Nt.rfault nodes slots nf F (L k).fr (L k).tt (L k).np (L k).p = Nt.rfault nodes slots nf F x.fr x.tt m x.p) := by show (_ : Int) = _; rw [HX.out.1, HX.out.2]
    obtain ⟨c, hc⟩ : ∃ c, c = Nt.rfault nodes slots nf F x.fr x.tt m x.p := ⟨_, rfl⟩
    have HCC : Hid (c = Nt.rfault nodes slots nf F x.fr x.tt m x.p) := hc
    rw [← hc]
    clear hc
    by_cases hz : c = 0
    · have hzb : (c != 0) = false := by simp [hz]
      have HRZ : Hid (Nt.rfault nodes slots nf F (L k).fr (L k).tt (L k).np (L k).p = 0) := by show (_ : Int) = _; rw [HRF.out, ← HCC.out, hz]
      by_cases g0 : x.wd < 1
      · have hs : Hid (C = 3) := by rw [HC.out]; exact lc_three HID.out HRZ.out (by rw [← HX.out.1]; unfold Nt.rngB; simp; omega)
        obtain ⟨x0, x1, x2, x3, x4, x5, x6, x7, x8⟩ := CX w1 HB1.out
        go_wp2
        go_ret
        exact ⟨by rw [hs.out]; rfl, BY.out.2.2.trans (HB1.out.mono hYz)⟩
      by_cases g1 : 64 < x.wd
      · have hs : Hid (C = 3) := by rw [HC.out]; exact lc_three HID.out HRZ.out (by rw [← HX.out.1]; unfold Nt.rngB; simp; omega)
        obtain ⟨x0, x1, x2, x3, x4, x5, x6, x7, x8⟩ := CX w1 HB1.out
        go_wp2
        go_ret
        exact ⟨by rw [hs.out]; rfl, BY.out.2.2.trans (HB1.out.mono hYz)⟩
      by_cases g2 : x.fi < 0
      · have hs : Hid (C = 3) := by rw [HC.out]; exact lc_three HID.out HRZ.out (by rw [← HX.out.1]; unfold Nt.rngB; simp; omega)
        obtain ⟨x0, x1, x2, x3, x4, x5, x6, x7, x8⟩ := CX w1 HB1.out
        go_wp2
        go_ret
        exact ⟨by rw [hs.out]; rfl, BY.out.2.2.trans (HB1.out.mono hYz)⟩
      by_cases g3 : 64 < x.fi
      · have hs : Hid (C = 3) := by rw [HC.out]; exact lc_three HID.out HRZ.out (by rw [← HX.out.1]; unfold Nt.rngB; simp; omega)
        obtain ⟨x0, x1, x2, x3, x4, x5, x6, x7, x8⟩ := CX w1 HB1.out
        go_wp2
        go_ret
        exact ⟨by rw [hs.out]; rfl, BY.out.2.2.trans (HB1.out.mono hYz)⟩
      by_cases g4 : slots < x.fi + x.wd
      · have hs : Hid (C = 3) := by rw [HC.out]; exact lc_three HID.out HRZ.out (by rw [← HX.out.1]; unfold Nt.rngB; simp; omega)
        obtain ⟨x0, x1, x2, x3, x4, x5, x6, x7, x8⟩ := CX w1 HB1.out
        go_wp2
        go_ret
        exact ⟨by rw [hs.out]; rfl, BY.out.2.2.trans (HB1.out.mono hYz)⟩
      have HRG : Hid (Nt.rngB slots (L k) = false) := by rw [← HX.out.1]; unfold Nt.rngB; rw [decide_eq_false g0, decide_eq_false g1, decide_eq_false g2, decide_eq_false g3, decide_eq_false g4]; rfl
      obtain ⟨x0, x1, x2, x3, x4, x5, x6, x7, x8⟩ := CX w1 HB1.out
      go_wp2_with fail
      clear x0 x1 x2 x3 x4 x5 x6 x7 x8
      clear g0 g1 g2 g3 g4 hz hzb
      have gw : 1 ≤ x.wd ∧ x.wd ≤ 64 ∧ 0 ≤ x.fi ∧ x.fi ≤ 64 := by have := Nt.rng_no HRG.out; rw [← HX.out.1] at this; omega
      obtain ⟨gw1, gw2, gf1, gf2⟩ := gw
      go_loopw [9] (fun i wr => ∃ j : Nat, j ≤ k ∧ i = .int .i64 j ∧ Hid (Below Y.heap.size Y wr) ∧ Hid (Nt.any (fun q => Nt.meets (L k) (L q)) j = false)) (fun i _ => k - (intOf i).toNat)
      case atStart => exact ⟨0, Nat.zero_le _, rfl, HB1.out, rfl⟩
      case round =>
        obtain ⟨j, hj, rfl, HB, HF⟩ := hrel
        obtain ⟨wo, hwo⟩ : ∃ wo, wo = wr := ⟨_, rfl⟩
        subst hwo
        by_cases hjk : j < k
        · obtain ⟨b', o', qo, qc, hao, hc, hq⟩ := (H wo HB.out).out.2.1.at (show j < n by omega)
          simp only [Option.some.injEq, Addr.mk.injEq, and_true] at hao
          obtain ⟨rfl, rfl⟩ := hao
          obtain ⟨y, hy⟩ : ∃ y, y = L j := ⟨_, rfl⟩
          obtain ⟨mq, hmq⟩ : ∃ mq, mq = (L j).np := ⟨_, rfl⟩
          have hmqb : mq ≤ 1048576 := by rw [hmq]; exact (H wo HB.out).out.2.2.2.each (by omega)
          rw [← hmq, ← hy] at hc hq
          have d0 : wo.cell? ⟨bl, ol + j * 6, none⟩ = some (.int .i64 y.id) := hc 0 (by omega)
          have d1 : wo.cell? ⟨bl, ol + j * 6 + 1, none⟩ = some (.int .i64 y.fr) := hc 1 (by omega)
          have d2 : wo.cell? ⟨bl, ol + j * 6 + 2, none⟩ = some (.int .i64 y.tt) := hc 2 (by omega)
          have d3 : wo.cell? ⟨bl, ol + j * 6 + 3, none⟩ = some (.slice qo mq qc) := hc 3 (by omega)
          have d4 : wo.cell? ⟨bl, ol + j * 6 + 4, none⟩ = some (.int .i64 y.fi) := hc 4 (by omega)
          have d5 : wo.cell? ⟨bl, ol + j * 6 + 5, none⟩ = some (.int .i64 y.wd) := hc 5 (by omega)
          have hbo : bl < wo.heap.size := World.block_lt_of_cell? _ _ d0
          have hok := HO.out.1.ok j hjk
          rw [← hy] at hok
          have v1 : 1 ≤ y.wd := hok.w1
          have v2 : 0 ≤ y.fi := hok.f0
          have v3 : y.fi + y.wd ≤ 64 := by have := hok.top; omega
          have HY2 : Hid (y = L j ∧ mq = (L j).np) := ⟨hy, hmq⟩
          obtain ⟨V, hV⟩ : ∃ V, V = wo.alloc (.cells #[.int .i64 y.id, .int .i64 y.fr, .int .i64 y.tt, .slice qo mq qc, .int .i64 y.fi, .int .i64 y.wd] 80) := ⟨_, rfl⟩
          have BV : Hid (Blk V wo.heap.size #[.int .i64 y.id, .int .i64 y.fr, .int .i64 y.tt, .slice qo mq qc, .int .i64 y.fi, .int .i64 y.wd] 80 ∧ Below Y.heap.size Y V ∧ RdRow V (.slice qo mq qc) mq y.p) := by rw [hV]; exact ⟨Blk.new rfl, HB.out.alloc HB.out.size _, hq.later ((Below.refl _ _).alloc (Nat.le_refl _) _)⟩
          have y3 : V.cell? ⟨wo.heap.size, 3, none⟩ = some (.slice qo mq qc) := BV.out.1.cell rfl
          have y4 : V.cell? ⟨wo.heap.size, 4, none⟩ = some (.int .i64 y.fi) := BV.out.1.cell rfl
          have y5 : V.cell? ⟨wo.heap.size, 5, none⟩ = some (.int .i64 y.wd) := BV.out.1.cell rfl
          clear hc hq hok hy hmq
          have hjI : (j : Int) < n := by omega
          have hsum : Hid (∀ b, decide (x.fi + x.wd ≤ y.fi) = b → True) := fun _ _ => trivial
          go_upto_region 13 with fail
          rw [← hV]
          clear hV d0 d1 d2 d3 d4 d5 hsum
          obtain ⟨x0, x1, x2, x3, x4, x5, x6, x7, x8⟩ := CX V BV.out.2.1
          by_cases q1 : x.fi + x.wd ≤ y.fi
          · have hm : Hid (Nt.any (fun q => Nt.meets (L k) (L q)) (j + 1) = false) := Nt.any_next HF.out (by rw [← HX.out.1, ← HY2.out.1]; unfold Nt.meets; rw [decide_eq_true q1]; rfl)
            go_wp2
            go_roundw
            case rel => exact ⟨j + 1, by omega, by simp, BV.out.2.1, hm⟩
            case measure => simp [intOf]; omega
          · by_cases q2 : y.fi + y.wd ≤ x.fi
            · have hm : Hid (Nt.any (fun q => Nt.meets (L k) (L q)) (j + 1) = false) := Nt.any_next HF.out (by rw [← HX.out.1, ← HY2.out.1]; unfold Nt.meets; rw [decide_eq_true q2]; simp)
              go_wp2
              go_roundw
              case rel => exact ⟨j + 1, by omega, by simp, BV.out.2.1, hm⟩
              case measure => simp [intOf]; omega
            · have HME : Hid (Nt.meets (L k) (L j) = Nt.any (fun q => Nt.has y.p mq (x.p q)) m) := by
                show Nt.meets (L k) (L j) = _
                unfold Nt.meets Nt.share
                rw [← HX.out.1, ← HY2.out.1, decide_eq_false q1, decide_eq_false q2, show y.np = mq by rw [HY2.out.1, HY2.out.2], show x.np = m by rw [HX.out.1, HX.out.2]]
                rfl
              go_wp2_with fail
              clear x0 x1 x2 x3 x4 x5 x6 x7 x8
              clear y3 y4 y5 q1 q2
              go_loopw [11] (fun i wr => ∃ a : Nat, a ≤ m ∧ i = .int .i64 a ∧ Hid (Below V.heap.size V wr) ∧ Hid (Nt.any (fun q => Nt.has y.p mq (x.p q)) a = false)) (fun i _ => m - (intOf i).toNat)
              case atStart => exact ⟨0, Nat.zero_le _, rfl, Below.refl _ _, rfl⟩
              case round =>
                obtain ⟨a, ha, rfl, HQ, HA⟩ := hrel
                have HYQ : Hid (Below Y.heap.size Y wr) := BV.out.2.1.trans (HQ.out.mono BV.out.2.1.size)
                by_cases ham : a < m
                · obtain ⟨pb, pf, hpo, hpc⟩ := (H wr HYQ.out).out.2.2.1.at ham
                  subst hpo
                  have K1 : ∀ x_ : Kept wr.heap.size wr, x_.w.cell? ⟨w.heap.size + 1, 3, none⟩ = some (.slice (some ⟨pb, pf, none⟩) m pc) := fun x_ => ((BY.out.2.1.old HYQ.out).old x_.h).cell rfl
                  have K2 : ∀ x_ : Kept wr.heap.size wr, x_.w.cell? ⟨wo.heap.size, 3, none⟩ = some (.slice qo mq qc) := fun x_ => ((BV.out.1.old HQ.out).old x_.h).cell rfl
                  have K3 : ∀ x_ : Kept wr.heap.size wr, x_.w.cell? ⟨pb, pf + a, none⟩ = some (.int .i64 (x.p a)) := fun x_ => kold x_.h hpc
                  have hx3 : wr.cell? ⟨w.heap.size + 1, 3, none⟩ = some (.slice (some ⟨pb, pf, none⟩) m pc) := (BY.out.2.1.old HYQ.out).cell rfl
                  have KR : ∀ x_ : Kept wr.heap.size wr, RdRow x_.w (.slice qo mq qc) mq y.p := fun x_ => (BV.out.2.2.later HQ.out).later x_.h
                  have hamI : (a : Int) < m := by omega
                  have hmI : (m : Int) ≤ 1048576 := by omega
                  clear hpc
                  cases hh : Nt.has y.p mq (x.p a) with
                  | true =>
                    have hs : Hid (C = 7) := by
                      rw [HC.out]
                      exact lc_seven HID.out HRZ.out HRG.out (Nt.any_hit hjk (by rw [HME.out]; exact Nt.any_hit ham hh))
                    have HHt : ∀ x_ : Kept wr.heap.size wr, Calls Try.prog 102 #[.slice qo mq qc, .int .i64 (x.p a)] x_.w fun e w' => e = .returned (.bool true) ∧ Below x_.w.heap.size x_.w w' := fun x_ => by
                      have := sHas_any (x.p a) (KR x_) (by omega)
                      rw [hh] at this
                      exact this.mono fun e w' ⟨h1, h2⟩ => ⟨h1, by rw [h2]; exact Below.refl _ _⟩
                    clear hh
                    go_upto_region 17 with fail
                    refine wp_region_kept wr.heap.size (by kernel_rfl) (by kernel_rfl) ?_
                    intro hne
                    repeat (go_big_quiet_step (first | (go_at_call 102; exact Calls.kept_of (Nat.le_refl _) (HHt _))))
                    refine wpQuiet_nil ?_
                    rintro u9 ⟨xk, hxk⟩
                    have hR1 := xk.h
                    rw [← hxk] at hR1
                    clear hxk xk hne K1 K2 K3 KR HHt hx3
                    go_wp2
                    go_ret
                    exact ⟨by rw [hs.out]; rfl, BY.out.2.2.trans ((HYQ.out.trans (hR1.mono HYQ.out.size)).mono hYz)⟩
                  | false =>
                    have hm2 : Hid (Nt.any (fun q => Nt.has y.p mq (x.p q)) (a + 1) = false) := Nt.any_next HA.out hh
                    have HHt : ∀ x_ : Kept wr.heap.size wr, Calls Try.prog 102 #[.slice qo mq qc, .int .i64 (x.p a)] x_.w fun e w' => e = .returned (.bool false) ∧ Below x_.w.heap.size x_.w w' := fun x_ => by
                      have := sHas_any (x.p a) (KR x_) (by omega)
                      rw [hh] at this
                      exact this.mono fun e w' ⟨h1, h2⟩ => ⟨h1, by rw [h2]; exact Below.refl _ _⟩
                    clear hh
                    go_upto_region 17 with fail
                    refine wp_region_kept wr.heap.size (by kernel_rfl) (by kernel_rfl) ?_
                    intro hne
                    repeat (go_big_quiet_step (first | (go_at_call 102; exact Calls.kept_of (Nat.le_refl _) (HHt _))))
                    refine wpQuiet_nil ?_
                    rintro u9 ⟨xk, hxk⟩
                    have hR1 := xk.h
                    rw [← hxk] at hR1
                    clear hxk xk hne K1 K2 K3 KR HHt hx3
                    go_wp2
                    go_roundw
                    case rel => exact ⟨a + 1, by omega, by simp, HQ.out.trans (hR1.mono HQ.out.size), hm2⟩
                    case measure => simp [intOf]; omega
                · obtain rfl : a = m := by omega
                  have hm : Hid (Nt.any (fun q => Nt.meets (L k) (L q)) (j + 1) = false) := Nt.any_next HF.out (by rw [HME.out]; exact HA.out)
                  have hx3 : wr.cell? ⟨w.heap.size + 1, 3, none⟩ = some (.slice po a pc) := (BY.out.2.1.old HYQ.out).cell rfl
                  go_wp2
                  go_roundw
                  case rel => exact ⟨j + 1, by omega, by simp, HYQ, hm⟩
                  case measure => simp [intOf]; omega
        · obtain rfl : j = k := by omega
          have hs : Hid (C = 0) := by rw [HC.out]; exact lc_nil HID.out HRZ.out HRG.out HF.out
          go_wp2
          go_ret
          exact ⟨by rw [hs.out]; rfl, BY.out.2.2.trans (HB.out.mono hYz)⟩
    · have hzb : (c != 0) = true := by simpa using hz
      have hs : Hid (C = c) := by show (_ : Int) = _; rw [HC.out, lc_rf HID.out (by rw [HRF.out, ← HCC.out]; exact hz), HRF.out, ← HCC.out]
      clear hz
      go_wp2
      go_ret
      exact ⟨by rw [hs.out]; rfl, BY.out.2.2.trans (HB1.out.mono hYz)⟩
  · obtain ⟨k1, hk1⟩ : ∃ k1, k = k1 + 1 := ⟨k - 1, by omega⟩
    obtain ⟨b', o', qo, qc, hao, hc, hq⟩ := (H Y (Below.refl _ _)).out.2.1.at (show k1 < n by omega)
    simp only [Option.some.injEq, Addr.mk.injEq, and_true] at hao
    obtain ⟨rfl, rfl⟩ := hao
    have KL : ∀ x_ : Kept Y.heap.size Y, x_.w.cell? ⟨bl, ol + k1 * 6, none⟩ = some (.int .i64 (L k1).id) := fun x_ => kold x_.h (hc 0 (by omega))
    have hkw : IntKind.i64.wrap ((k : Int) - 1) = (k1 : Int) := by rw [IntKind.wrap_i64]; omega
    have hid2 : ¬ x.id ≤ (L k1).id := by have := HID.out; rw [HX.out.1]; rw [hk1] at this ⊢; simp at this ⊢; omega
    have hkp : decide ((0 : Int) < (k : Int)) = true := decide_eq_true (by omega)
    have hkp2 : decide (0 < k) = true := decide_eq_true (by omega)
    have hid3 : decide (x.id ≤ (L k1).id) = false := decide_eq_false hid2
    have hk1I : (k1 : Int) < n := by omega
    clear hc hq hk0 hk1
    go_enter Try.func96, Try.ntmps96
    go_upto_region 2 with fail
    rw [← hY]
    clear hY c0 c1 c2 c3 c4 c5
    go_upto_region 2 with fail
    refine wp_region_kept Y.heap.size (by kernel_rfl) (by kernel_rfl) ?_
    intro hne
    repeat (go_big_quiet_step (fail))
    refine wpQuiet_nil ?_
    rintro u7 ⟨xk, hxk⟩
    have hR1 := xk.h
    rw [← hxk] at hR1
    clear hxk xk hne KX0 KL
    obtain ⟨x0, x1, x2, x3, x4, x5, x6, x7, x8⟩ := CX u7 hR1
    go_wp2_with fail
    refine (sRf_any x.fr x.tt (H _ hR1).out.1 (H _ hR1).out.2.2.1 hf hmb).mono ?_
    rintro e w1 ⟨rfl, hb1⟩
    clear x0 x1 x2 x3 x4 x5 x6 x7 x8
    have HB1 : Hid (Below Y.heap.size Y w1) := hR1.trans (hb1.mono hR1.size)
    clear hb1 hR1
    have HRF : Hid (Nt.rfault nodes slots nf F (L k).fr (L k).tt (L k).np (L k).p = Nt.rfault nodes slots nf F x.fr x.tt m x.p) := by show (_ : Int) = _; rw [HX.out.1, HX.out.2]
    obtain ⟨c, hc⟩ : ∃ c, c = Nt.rfault nodes slots nf F x.fr x.tt m x.p := ⟨_, rfl⟩
    have HCC : Hid (c = Nt.rfault nodes slots nf F x.fr x.tt m x.p) := hc
    rw [← hc]
    clear hc
    by_cases hz : c = 0
    · have hzb : (c != 0) = false := by simp [hz]
      have HRZ : Hid (Nt.rfault nodes slots nf F (L k).fr (L k).tt (L k).np (L k).p = 0) := by show (_ : Int) = _; rw [HRF.out, ← HCC.out, hz]
      by_cases g0 : x.wd < 1
      · have hs : Hid (C = 3) := by rw [HC.out]; exact lc_three HID.out HRZ.out (by rw [← HX.out.1]; unfold Nt.rngB; simp; omega)
        obtain ⟨x0, x1, x2, x3, x4, x5, x6, x7, x8⟩ := CX w1 HB1.out
        go_wp2
        go_ret
        exact ⟨by rw [hs.out]; rfl, BY.out.2.2.trans (HB1.out.mono hYz)⟩
      by_cases g1 : 64 < x.wd
      · have hs : Hid (C = 3) := by rw [HC.out]; exact lc_three HID.out HRZ.out (by rw [← HX.out.1]; unfold Nt.rngB; simp; omega)
        obtain ⟨x0, x1, x2, x3, x4, x5, x6, x7, x8⟩ := CX w1 HB1.out
        go_wp2
        go_ret
        exact ⟨by rw [hs.out]; rfl, BY.out.2.2.trans (HB1.out.mono hYz)⟩
      by_cases g2 : x.fi < 0
      · have hs : Hid (C = 3) := by rw [HC.out]; exact lc_three HID.out HRZ.out (by rw [← HX.out.1]; unfold Nt.rngB; simp; omega)
        obtain ⟨x0, x1, x2, x3, x4, x5, x6, x7, x8⟩ := CX w1 HB1.out
        go_wp2
        go_ret
        exact ⟨by rw [hs.out]; rfl, BY.out.2.2.trans (HB1.out.mono hYz)⟩
      by_cases g3 : 64 < x.fi
      · have hs : Hid (C = 3) := by rw [HC.out]; exact lc_three HID.out HRZ.out (by rw [← HX.out.1]; unfold Nt.rngB; simp; omega)
        obtain ⟨x0, x1, x2, x3, x4, x5, x6, x7, x8⟩ := CX w1 HB1.out
        go_wp2
        go_ret
        exact ⟨by rw [hs.out]; rfl, BY.out.2.2.trans (HB1.out.mono hYz)⟩
      by_cases g4 : slots < x.fi + x.wd
      · have hs : Hid (C = 3) := by rw [HC.out]; exact lc_three HID.out HRZ.out (by rw [← HX.out.1]; unfold Nt.rngB; simp; omega)
        obtain ⟨x0, x1, x2, x3, x4, x5, x6, x7, x8⟩ := CX w1 HB1.out
        go_wp2
        go_ret
        exact ⟨by rw [hs.out]; rfl, BY.out.2.2.trans (HB1.out.mono hYz)⟩
      have HRG : Hid (Nt.rngB slots (L k) = false) := by rw [← HX.out.1]; unfold Nt.rngB; rw [decide_eq_false g0, decide_eq_false g1, decide_eq_false g2, decide_eq_false g3, decide_eq_false g4]; rfl
      obtain ⟨x0, x1, x2, x3, x4, x5, x6, x7, x8⟩ := CX w1 HB1.out
      go_wp2_with fail
      clear x0 x1 x2 x3 x4 x5 x6 x7 x8
      clear g0 g1 g2 g3 g4 hz hzb
      have gw : 1 ≤ x.wd ∧ x.wd ≤ 64 ∧ 0 ≤ x.fi ∧ x.fi ≤ 64 := by have := Nt.rng_no HRG.out; rw [← HX.out.1] at this; omega
      obtain ⟨gw1, gw2, gf1, gf2⟩ := gw
      go_loopw [9] (fun i wr => ∃ j : Nat, j ≤ k ∧ i = .int .i64 j ∧ Hid (Below Y.heap.size Y wr) ∧ Hid (Nt.any (fun q => Nt.meets (L k) (L q)) j = false)) (fun i _ => k - (intOf i).toNat)
      case atStart => exact ⟨0, Nat.zero_le _, rfl, HB1.out, rfl⟩
      case round =>
        obtain ⟨j, hj, rfl, HB, HF⟩ := hrel
        obtain ⟨wo, hwo⟩ : ∃ wo, wo = wr := ⟨_, rfl⟩
        subst hwo
        by_cases hjk : j < k
        · obtain ⟨b', o', qo, qc, hao, hc, hq⟩ := (H wo HB.out).out.2.1.at (show j < n by omega)
          simp only [Option.some.injEq, Addr.mk.injEq, and_true] at hao
          obtain ⟨rfl, rfl⟩ := hao
          obtain ⟨y, hy⟩ : ∃ y, y = L j := ⟨_, rfl⟩
          obtain ⟨mq, hmq⟩ : ∃ mq, mq = (L j).np := ⟨_, rfl⟩
          have hmqb : mq ≤ 1048576 := by rw [hmq]; exact (H wo HB.out).out.2.2.2.each (by omega)
          rw [← hmq, ← hy] at hc hq
          have d0 : wo.cell? ⟨bl, ol + j * 6, none⟩ = some (.int .i64 y.id) := hc 0 (by omega)
          have d1 : wo.cell? ⟨bl, ol + j * 6 + 1, none⟩ = some (.int .i64 y.fr) := hc 1 (by omega)
          have d2 : wo.cell? ⟨bl, ol + j * 6 + 2, none⟩ = some (.int .i64 y.tt) := hc 2 (by omega)
          have d3 : wo.cell? ⟨bl, ol + j * 6 + 3, none⟩ = some (.slice qo mq qc) := hc 3 (by omega)
          have d4 : wo.cell? ⟨bl, ol + j * 6 + 4, none⟩ = some (.int .i64 y.fi) := hc 4 (by omega)
          have d5 : wo.cell? ⟨bl, ol + j * 6 + 5, none⟩ = some (.int .i64 y.wd) := hc 5 (by omega)
          have hbo : bl < wo.heap.size := World.block_lt_of_cell? _ _ d0
          have hok := HO.out.1.ok j hjk
          rw [← hy] at hok
          have v1 : 1 ≤ y.wd := hok.w1
          have v2 : 0 ≤ y.fi := hok.f0
          have v3 : y.fi + y.wd ≤ 64 := by have := hok.top; omega
          have HY2 : Hid (y = L j ∧ mq = (L j).np) := ⟨hy, hmq⟩
          obtain ⟨V, hV⟩ : ∃ V, V = wo.alloc (.cells #[.int .i64 y.id, .int .i64 y.fr, .int .i64 y.tt, .slice qo mq qc, .int .i64 y.fi, .int .i64 y.wd] 80) := ⟨_, rfl⟩
          have BV : Hid (Blk V wo.heap.size #[.int .i64 y.id, .int .i64 y.fr, .int .i64 y.tt, .slice qo mq qc, .int .i64 y.fi, .int .i64 y.wd] 80 ∧ Below Y.heap.size Y V ∧ RdRow V (.slice qo mq qc) mq y.p) := by rw [hV]; exact ⟨Blk.new rfl, HB.out.alloc HB.out.size _, hq.later ((Below.refl _ _).alloc (Nat.le_refl _) _)⟩
          have y3 : V.cell? ⟨wo.heap.size, 3, none⟩ = some (.slice qo mq qc) := BV.out.1.cell rfl
          have y4 : V.cell? ⟨wo.heap.size, 4, none⟩ = some (.int .i64 y.fi) := BV.out.1.cell rfl
          have y5 : V.cell? ⟨wo.heap.size, 5, none⟩ = some (.int .i64 y.wd) := BV.out.1.cell rfl
          clear hc hq hok hy hmq
          have hjI : (j : Int) < n := by omega
          have hsum : Hid (∀ b, decide (x.fi + x.wd ≤ y.fi) = b → True) := fun _ _ => trivial
          go_upto_region 13 with fail
          rw [← hV]
          clear hV d0 d1 d2 d3 d4 d5 hsum
          obtain ⟨x0, x1, x2, x3, x4, x5, x6, x7, x8⟩ := CX V BV.out.2.1
          by_cases q1 : x.fi + x.wd ≤ y.fi
          · have hm : Hid (Nt.any (fun q => Nt.meets (L k) (L q)) (j + 1) = false) := Nt.any_next HF.out (by rw [← HX.out.1, ← HY2.out.1]; unfold Nt.meets; rw [decide_eq_true q1]; rfl)
            go_wp2
            go_roundw
            case rel => exact ⟨j + 1, by omega, by simp, BV.out.2.1, hm⟩
            case measure => simp [intOf]; omega
          · by_cases q2 : y.fi + y.wd ≤ x.fi
            · have hm : Hid (Nt.any (fun q => Nt.meets (L k) (L q)) (j + 1) = false) := Nt.any_next HF.out (by rw [← HX.out.1, ← HY2.out.1]; unfold Nt.meets; rw [decide_eq_true q2]; simp)
              go_wp2
              go_roundw
              case rel => exact ⟨j + 1, by omega, by simp, BV.out.2.1, hm⟩
              case measure => simp [intOf]; omega
            · have HME : Hid (Nt.meets (L k) (L j) = Nt.any (fun q => Nt.has y.p mq (x.p q)) m) := by
                show Nt.meets (L k) (L j) = _
                unfold Nt.meets Nt.share
                rw [← HX.out.1, ← HY2.out.1, decide_eq_false q1, decide_eq_false q2, show y.np = mq by rw [HY2.out.1, HY2.out.2], show x.np = m by rw [HX.out.1, HX.out.2]]
                rfl
              go_wp2_with fail
              clear x0 x1 x2 x3 x4 x5 x6 x7 x8
              clear y3 y4 y5 q1 q2
              go_loopw [11] (fun i wr => ∃ a : Nat, a ≤ m ∧ i = .int .i64 a ∧ Hid (Below V.heap.size V wr) ∧ Hid (Nt.any (fun q => Nt.has y.p mq (x.p q)) a = false)) (fun i _ => m - (intOf i).toNat)
              case atStart => exact ⟨0, Nat.zero_le _, rfl, Below.refl _ _, rfl⟩
              case round =>
                obtain ⟨a, ha, rfl, HQ, HA⟩ := hrel
                have HYQ : Hid (Below Y.heap.size Y wr) := BV.out.2.1.trans (HQ.out.mono BV.out.2.1.size)
                by_cases ham : a < m
                · obtain ⟨pb, pf, hpo, hpc⟩ := (H wr HYQ.out).out.2.2.1.at ham
                  subst hpo
                  have K1 : ∀ x_ : Kept wr.heap.size wr, x_.w.cell? ⟨w.heap.size + 1, 3, none⟩ = some (.slice (some ⟨pb, pf, none⟩) m pc) := fun x_ => ((BY.out.2.1.old HYQ.out).old x_.h).cell rfl
                  have K2 : ∀ x_ : Kept wr.heap.size wr, x_.w.cell? ⟨wo.heap.size, 3, none⟩ = some (.slice qo mq qc) := fun x_ => ((BV.out.1.old HQ.out).old x_.h).cell rfl
                  have K3 : ∀ x_ : Kept wr.heap.size wr, x_.w.cell? ⟨pb, pf + a, none⟩ = some (.int .i64 (x.p a)) := fun x_ => kold x_.h hpc
                  have hx3 : wr.cell? ⟨w.heap.size + 1, 3, none⟩ = some (.slice (some ⟨pb, pf, none⟩) m pc) := (BY.out.2.1.old HYQ.out).cell rfl
                  have KR : ∀ x_ : Kept wr.heap.size wr, RdRow x_.w (.slice qo mq qc) mq y.p := fun x_ => (BV.out.2.2.later HQ.out).later x_.h
                  have hamI : (a : Int) < m := by omega
                  have hmI : (m : Int) ≤ 1048576 := by omega
                  clear hpc
                  cases hh : Nt.has y.p mq (x.p a) with
                  | true =>
                    have hs : Hid (C = 7) := by
                      rw [HC.out]
                      exact lc_seven HID.out HRZ.out HRG.out (Nt.any_hit hjk (by rw [HME.out]; exact Nt.any_hit ham hh))
                    have HHt : ∀ x_ : Kept wr.heap.size wr, Calls Try.prog 102 #[.slice qo mq qc, .int .i64 (x.p a)] x_.w fun e w' => e = .returned (.bool true) ∧ Below x_.w.heap.size x_.w w' := fun x_ => by
                      have := sHas_any (x.p a) (KR x_) (by omega)
                      rw [hh] at this
                      exact this.mono fun e w' ⟨h1, h2⟩ => ⟨h1, by rw [h2]; exact Below.refl _ _⟩
                    clear hh
                    go_upto_region 17 with fail
                    refine wp_region_kept wr.heap.size (by kernel_rfl) (by kernel_rfl) ?_
                    intro hne
                    repeat (go_big_quiet_step (first | (go_at_call 102; exact Calls.kept_of (Nat.le_refl _) (HHt _))))
                    refine wpQuiet_nil ?_
                    rintro u9 ⟨xk, hxk⟩
                    have hR1 := xk.h
                    rw [← hxk] at hR1
                    clear hxk xk hne K1 K2 K3 KR HHt hx3
                    go_wp2
                    go_ret
                    exact ⟨by rw [hs.out]; rfl, BY.out.2.2.trans ((HYQ.out.trans (hR1.mono HYQ.out.size)).mono hYz)⟩
                  | false =>
                    have hm2 : Hid (Nt.any (fun q => Nt.has y.p mq (x.p q)) (a + 1) = false) := Nt.any_next HA.out hh
                    have HHt : ∀ x_ : Kept wr.heap.size wr, Calls Try.prog 102 #[.slice qo mq qc, .int .i64 (x.p a)] x_.w fun e w' => e = .returned (.bool false) ∧ Below x_.w.heap.size x_.w w' := fun x_ => by
                      have := sHas_any (x.p a) (KR x_) (by omega)
                      rw [hh] at this
                      exact this.mono fun e w' ⟨h1, h2⟩ => ⟨h1, by rw [h2]; exact Below.refl _ _⟩
                    clear hh
                    go_upto_region 17 with fail
                    refine wp_region_kept wr.heap.size (by kernel_rfl) (by kernel_rfl) ?_
                    intro hne
                    repeat (go_big_quiet_step (first | (go_at_call 102; exact Calls.kept_of (Nat.le_refl _) (HHt _))))
                    refine wpQuiet_nil ?_
                    rintro u9 ⟨xk, hxk⟩
                    have hR1 := xk.h
                    rw [← hxk] at hR1
                    clear hxk xk hne K1 K2 K3 KR HHt hx3
                    go_wp2
                    go_roundw
                    case rel => exact ⟨a + 1, by omega, by simp, HQ.out.trans (hR1.mono HQ.out.size), hm2⟩
                    case measure => simp [intOf]; omega
                · obtain rfl : a = m := by omega
                  have hm : Hid (Nt.any (fun q => Nt.meets (L k) (L q)) (j + 1) = false) := Nt.any_next HF.out (by rw [HME.out]; exact HA.out)
                  have hx3 : wr.cell? ⟨w.heap.size + 1, 3, none⟩ = some (.slice po a pc) := (BY.out.2.1.old HYQ.out).cell rfl
                  go_wp2
                  go_roundw
                  case rel => exact ⟨j + 1, by omega, by simp, HYQ, hm⟩
                  case measure => simp [intOf]; omega
        · obtain rfl : j = k := by omega
          have hs : Hid (C = 0) := by rw [HC.out]; exact lc_nil HID.out HRZ.out HRG.out HF.out
          go_wp2
          go_ret
          exact ⟨by rw [hs.out]; rfl, BY.out.2.2.trans (HB.out.mono hYz)⟩
    · have hzb : (c != 0) = true := by simpa using hz
      have hs : Hid (C = c) := by show (_ : Int) = _; rw [HC.out, lc_rf HID.out (by rw [HRF.out, ← HCC.out]; exact hz), HRF.out, ← HCC.out]
      clear hz
      go_wp2
      go_ret
      exact ⟨by rw [hs.out]; rfl, BY.out.2.2.trans (HB1.out.mono hYz)⟩
end Go.Proofs.Ytinfbbbgfkaioaa
