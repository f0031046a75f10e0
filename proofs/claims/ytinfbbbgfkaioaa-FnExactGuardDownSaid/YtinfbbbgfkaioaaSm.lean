/- Lists of lights: what is wrong with one, in the specification: contracts. -/
import Derived.Test.YtinfbbbgfkaioaaSl
namespace Go.Proofs.Ytinfbbbgfkaioaa
open Go.RowKit
set_option linter.unusedVariables false
set_option linter.unusedSimpArgs false
set_option maxRecDepth 20000 in
set_option maxHeartbeats 3200000 in
theorem sLit_one {w : World} {ao lo : Option Addr} {nf cp n cl : Nat} {nodes slots : Int} {F : Nat → Fb} {L : Nat → Li} (k : Nat) (hkn : k < n) (h : Rf w (.slice ao nf cp) nf F) (hl : RdL w (.slice lo n cl) n L) (hf : nf ≤ 1048576) (hw : LFew n L) (hN : Nt.nfault nodes slots nf F = 0) (hO : Nt.AllOk nodes slots nf F k L) (hid : (L k).id < 1 ∨ (0 < k ∧ (L k).id ≤ (L (k - 1)).id)) :
    Calls Try.prog 96 #[.agg #[.int .i64 nodes, .int .i64 slots, .slice ao nf cp], .slice lo n cl, .int .i64 k] w fun e w' => e = .returned (.int .i64 (Nt.lcode nodes slots nf F L k)) ∧ Below w.heap.size w w' := by
  have hnI : (n : Int) ≤ 1048576 := by have := hw.cn; omega
  obtain ⟨bl, ol, po, pc, rfl, hc, hp⟩ := hl.at hkn
  obtain ⟨x, hx⟩ : ∃ x, x = L k := ⟨_, rfl⟩
  obtain ⟨m, hm⟩ : ∃ m, m = (L k).np := ⟨_, rfl⟩
  have hmb : m ≤ 1048576 := by rw [hm]; exact hw.each hkn
  rw [← hm, ← hx] at hc hp
  have c0 : w.cell? ⟨bl, ol + k * 6, none⟩ = some (.int .i64 x.id) := hc 0 (by omega)
  have c1 : w.cell? ⟨bl, ol + k * 6 + 1, none⟩ = some (.int .i64 x.fr) := hc 1 (by omega)
  have c2 : w.cell? ⟨bl, ol + k * 6 + 2, none⟩ = some (.int .i64 x.tt) := hc 2 (by omega)
  have c3 : w.cell? ⟨bl, ol + k * 6 + 3, none⟩ = some (.slice po m pc) := hc 3 (by omega)
  have c4 : w.cell? ⟨bl, ol + k * 6 + 4, none⟩ = some (.int .i64 x.fi) := hc 4 (by omega)
  have c5 : w.cell? ⟨bl, ol + k * 6 + 5, none⟩ = some (.int .i64 x.wd) := hc 5 (by omega)
  have hbl : bl < w.heap.size := World.block_lt_of_cell? _ _ c0
  have HX : Hid (x = L k ∧ m = (L k).np) := ⟨hx, hm⟩
  have HO : Hid (Nt.AllOk nodes slots nf F k L ∧ Nt.Good nodes slots nf F) := ⟨hO, Nt.nf_good hN⟩
  have hs64 : slots ≤ 64 := HO.out.2.s64
  obtain ⟨Y, hY⟩ : ∃ Y, Y = ((w.alloc (.cells #[.int .i64 nodes, .int .i64 slots, .slice ao nf cp] 37)).alloc (.cells #[.int .i64 x.id, .int .i64 x.fr, .int .i64 x.tt, .slice po m pc, .int .i64 x.fi, .int .i64 x.wd] 80)) := ⟨_, rfl⟩
  have BY : Hid (Blk Y w.heap.size #[.int .i64 nodes, .int .i64 slots, .slice ao nf cp] 37 ∧ Blk Y (w.heap.size + 1) #[.int .i64 x.id, .int .i64 x.fr, .int .i64 x.tt, .slice po m pc, .int .i64 x.fi, .int .i64 x.wd] 80 ∧ Below w.heap.size w Y) := by rw [hY]; exact ⟨(Blk.new rfl).alloc _, Blk.new (by simp), ((Below.refl _ _).alloc (Nat.le_refl _) _).alloc (by simp) _⟩
  have hYz : w.heap.size ≤ Y.heap.size := Nat.le_of_lt BY.out.1.lt
  have CX : ∀ W, Below Y.heap.size Y W → W.cell? ⟨w.heap.size, 0, none⟩ = some (.int .i64 nodes) ∧ W.cell? ⟨w.heap.size, 1, none⟩ = some (.int .i64 slots) ∧ W.cell? ⟨w.heap.size, 2, none⟩ = some (.slice ao nf cp) ∧ W.cell? ⟨w.heap.size + 1, 0, none⟩ = some (.int .i64 x.id) ∧ W.cell? ⟨w.heap.size + 1, 1, none⟩ = some (.int .i64 x.fr) ∧ W.cell? ⟨w.heap.size + 1, 2, none⟩ = some (.int .i64 x.tt) ∧ W.cell? ⟨w.heap.size + 1, 3, none⟩ = some (.slice po m pc) ∧ W.cell? ⟨w.heap.size + 1, 4, none⟩ = some (.int .i64 x.fi) ∧ W.cell? ⟨w.heap.size + 1, 5, none⟩ = some (.int .i64 x.wd) := fun W h => ⟨(BY.out.1.old h).cell rfl, (BY.out.1.old h).cell rfl, (BY.out.1.old h).cell rfl, (BY.out.2.1.old h).cell rfl, (BY.out.2.1.old h).cell rfl, (BY.out.2.1.old h).cell rfl, (BY.out.2.1.old h).cell rfl, (BY.out.2.1.old h).cell rfl, (BY.out.2.1.old h).cell rfl⟩
  have H : ∀ W, Below Y.heap.size Y W → Hid (Rf W (.slice ao nf cp) nf F ∧ RdL W (.slice (some ⟨bl, ol, none⟩) n cl) n L ∧ RdRow W (.slice po m pc) m x.p ∧ LFew n L) := fun W hb => ⟨h.later (BY.out.2.2.trans (hb.mono hYz)), hl.later (BY.out.2.2.trans (hb.mono hYz)), hp.later (BY.out.2.2.trans (hb.mono hYz)), hw⟩
  clear h hl hp hx hm hc hw hO hN
  obtain ⟨C, hC⟩ : ∃ C, C = Nt.lcode nodes slots nf F L k := ⟨_, rfl⟩
  have HC : Hid (C = Nt.lcode nodes slots nf F L k) := hC
  rw [← hC]
  clear hC
  have hkI : (k : Int) < n := by omega
  have hkI2 : (k : Int) ≤ 1048576 := by omega
  have KX0 : ∀ x_ : Kept Y.heap.size Y, x_.w.cell? ⟨w.heap.size + 1, 0, none⟩ = some (.int .i64 x.id) := fun x_ => (BY.out.2.1.old x_.h).cell rfl
  have hs : Hid (C = 1) := by rw [HC.out]; exact lc_one hid
  by_cases hi1 : x.id < 1
  · have hd1 : decide (x.id < 1) = true := decide_eq_true hi1
    clear hid
    go_enter Try.func96, Try.ntmps96
    go_upto_region 2 with fail
    rw [← hY]
    clear hY c0 c1 c2 c3 c4 c5
    go_upto_region 2 with fail
    refine wp_region_kept Y.heap.size (by kernel_rfl) (by kernel_rfl) ?_
    intro hne
    repeat (go_big_quiet_step (fail))
    refine wpQuiet_nil ?_
    rintro u7 ⟨xk, hxk⟩
    have hR1 := xk.h
    rw [← hxk] at hR1
    clear hxk xk hne KX0
    go_wp2
    go_ret
    exact ⟨by rw [hs.out]; rfl, BY.out.2.2.trans (hR1.mono hYz)⟩
  · have hd1 : decide (x.id < 1) = false := decide_eq_false hi1
    have hk0 : 0 < k := by rw [HX.out.1] at hi1; omega
    obtain ⟨k1, hk1⟩ : ∃ k1, k = k1 + 1 := ⟨k - 1, by omega⟩
    obtain ⟨b', o', qo, qc, hao, hc, hq⟩ := (H Y (Below.refl _ _)).out.2.1.at (show k1 < n by omega)
    simp only [Option.some.injEq, Addr.mk.injEq, and_true] at hao
    obtain ⟨rfl, rfl⟩ := hao
    have KL : ∀ x_ : Kept Y.heap.size Y, x_.w.cell? ⟨bl, ol + k1 * 6, none⟩ = some (.int .i64 (L k1).id) := fun x_ => kold x_.h (hc 0 (by omega))
    have hkw : IntKind.i64.wrap ((k : Int) - 1) = (k1 : Int) := by rw [IntKind.wrap_i64]; omega
    have hid2 : x.id ≤ (L k1).id := by rw [HX.out.1] at hi1 ⊢; have e1 : k - 1 = k1 := (by omega); rw [e1] at hid; omega
    have hkp : decide ((0 : Int) < (k : Int)) = true := decide_eq_true (by omega)
    have hkp2 : decide (0 < k) = true := decide_eq_true (by omega)
    have hid3 : decide (x.id ≤ (L k1).id) = true := decide_eq_true hid2
    have hk1I : (k1 : Int) < n := by omega
    clear hc hq hk0 hk1 hid
    go_enter Try.func96, Try.ntmps96
    go_upto_region 2 with fail
    rw [← hY]
    clear hY c0 c1 c2 c3 c4 c5
    go_upto_region 2 with fail
    refine wp_region_kept Y.heap.size (by kernel_rfl) (by kernel_rfl) ?_
    intro hne
    repeat (go_big_quiet_step (fail))
    refine wpQuiet_nil ?_
    rintro u7 ⟨xk, hxk⟩
    have hR1 := xk.h
    rw [← hxk] at hR1
    clear hxk xk hne KX0 KL
    go_wp2
    go_ret
    exact ⟨by rw [hs.out]; rfl, BY.out.2.2.trans (hR1.mono hYz)⟩
theorem sLit_any {w : World} {ao lo : Option Addr} {nf cp n cl : Nat} {nodes slots : Int} {F : Nat → Fb} {L : Nat → Li} (k : Nat) (hkn : k < n) (h : Rf w (.slice ao nf cp) nf F) (hl : RdL w (.slice lo n cl) n L) (hf : nf ≤ 1048576) (hw : LFew n L) (hN : Nt.nfault nodes slots nf F = 0) (hO : Nt.AllOk nodes slots nf F k L) :
    Calls Try.prog 96 #[.agg #[.int .i64 nodes, .int .i64 slots, .slice ao nf cp], .slice lo n cl, .int .i64 k] w fun e w' => e = .returned (.int .i64 (Nt.lcode nodes slots nf F L k)) ∧ Below w.heap.size w w' := by
  by_cases hid : (L k).id < 1 ∨ (0 < k ∧ (L k).id ≤ (L (k - 1)).id)
  · exact sLit_one k hkn h hl hf hw hN hO hid
  · exact sLit_go k hkn h hl hf hw hN hO hid
theorem lf_net {nodes slots : Int} {nf : Nat} {F : Nat → Fb} {nl : Nat} {L : Nat → Li} (h : Nt.nfault nodes slots nf F ≠ 0) : Nt.lfault nodes slots nf F nl L = Nt.nfault nodes slots nf F := by unfold Nt.lfault; rw [if_neg h]
theorem lf_many {nodes slots : Int} {nf : Nat} {F : Nat → Fb} {nl : Nat} {L : Nat → Li} (h : Nt.nfault nodes slots nf F = 0) (k : 40 < (nl : Int)) : Nt.lfault nodes slots nf F nl L = 2 := by unfold Nt.lfault; rw [if_pos h, if_pos k]
theorem lf_fst {nodes slots : Int} {nf : Nat} {F : Nat → Fb} {nl : Nat} {L : Nat → Li} (h : Nt.nfault nodes slots nf F = 0) (k : ¬ 40 < (nl : Int)) : Nt.lfault nodes slots nf F nl L = Nt.fst (Nt.lcode nodes slots nf F L) nl := by unfold Nt.lfault; rw [if_pos h, if_neg k]
set_option maxRecDepth 20000 in
set_option maxHeartbeats 3200000 in
theorem sLf_any {w : World} {ao lo : Option Addr} {nf cp n cl : Nat} {nodes slots : Int} {F : Nat → Fb} {L : Nat → Li} (h : Rf w (.slice ao nf cp) nf F) (hl : RdL w (.slice lo n cl) n L) (hf : nf ≤ 1048576) (hw : LFew n L) :
    Calls Try.prog 66 #[.agg #[.int .i64 nodes, .int .i64 slots, .slice ao nf cp], .slice lo n cl] w fun e w' => e = .returned (.int .i64 (Nt.lfault nodes slots nf F n L)) ∧ Below w.heap.size w w' := by
  obtain ⟨X, hX⟩ : ∃ X, X = (w.alloc (.cells #[.int .i64 nodes, .int .i64 slots, .slice ao nf cp] 37)) := ⟨_, rfl⟩
  have BX : Hid (Blk X w.heap.size #[.int .i64 nodes, .int .i64 slots, .slice ao nf cp] 37 ∧ Below w.heap.size w X) := by rw [hX]; exact ⟨Blk.new rfl, (Below.refl _ _).alloc (Nat.le_refl _) _⟩
  have CX : ∀ W, Below X.heap.size X W → W.cell? ⟨w.heap.size, 0, none⟩ = some (.int .i64 nodes) ∧ W.cell? ⟨w.heap.size, 1, none⟩ = some (.int .i64 slots) ∧ W.cell? ⟨w.heap.size, 2, none⟩ = some (.slice ao nf cp) :=
    fun W h => ⟨(BX.out.1.old h).cell rfl, (BX.out.1.old h).cell rfl, (BX.out.1.old h).cell rfl⟩
  have hXz : w.heap.size ≤ X.heap.size := Nat.le_of_lt BX.out.1.lt
  have hnI : (n : Int) ≤ 1048576 := by have := hw.cn; omega
  have H : ∀ W, Below X.heap.size X W → Hid (Rf W (.slice ao nf cp) nf F ∧ RdL W (.slice lo n cl) n L ∧ LFew n L) := fun W hb => ⟨h.later (BX.out.2.trans (hb.mono hXz)), hl.later (BX.out.2.trans (hb.mono hXz)), hw⟩
  clear h hl hw
  obtain ⟨c, hc⟩ : ∃ c, c = Nt.nfault nodes slots nf F := ⟨_, rfl⟩
  have HC : Hid (c = Nt.nfault nodes slots nf F) := hc
  by_cases hz : c = 0
  · have hc0 : Nt.nfault nodes slots nf F = 0 := by rw [← hc]; exact hz
    by_cases hn40 : 40 < (n : Int)
    · rw [lf_many hc0 hn40]
      clear hc hc0
      go_enter Try.func66, Try.ntmps66
      go_wp2_with fail
      rw [← hX]
      clear hX
      obtain ⟨x0, x1, x2⟩ := CX X (Below.refl _ _)
      go_wp2_with fail
      refine (sNf_any (H _ (Below.refl _ _)).out.1 hf).mono ?_
      rintro e w1 ⟨rfl, hb1⟩
      rw [← HC.out]
      clear x0 x1 x2
      rw [hz]
      go_wp2
      go_ret
      exact ⟨rfl, BX.out.2.trans (hb1.mono hXz)⟩
    · have HN : Hid (Nt.nfault nodes slots nf F = 0) := hc0
      obtain ⟨C, hC⟩ : ∃ C, C = Nt.fst (Nt.lcode nodes slots nf F L) n := ⟨_, rfl⟩
      have HCC : Hid (C = Nt.fst (Nt.lcode nodes slots nf F L) n) := hC
      rw [lf_fst hc0 hn40, ← hC]
      clear hc hc0 hC
      go_enter Try.func66, Try.ntmps66
      go_wp2_with fail
      rw [← hX]
      clear hX
      obtain ⟨x0, x1, x2⟩ := CX X (Below.refl _ _)
      go_wp2_with fail
      refine (sNf_any (H _ (Below.refl _ _)).out.1 hf).mono ?_
      rintro e w1 ⟨rfl, hb1⟩
      rw [← HC.out]
      clear x0 x1 x2
      rw [hz]
      have HB1 : Hid (Below X.heap.size X w1) := hb1
      clear hb1
      go_wp2_with fail
      go_loopw [6] (fun i wr => ∃ k : Nat, k ≤ n ∧ i = .int .i64 k ∧ Hid (Below X.heap.size X wr) ∧ Hid (Nt.fst (Nt.lcode nodes slots nf F L) k = 0)) (fun i _ => n - (intOf i).toNat)
      case atStart => exact ⟨0, Nat.zero_le _, rfl, HB1.out, rfl⟩
      case round =>
        obtain ⟨k, hk, rfl, HB, HK⟩ := hrel
        by_cases hkn : k < n
        · obtain ⟨x0, x1, x2⟩ := CX wr HB.out
          go_wp2_with fail
          refine (sLit_any k hkn (H _ HB.out).out.1 (H _ HB.out).out.2.1 hf (H _ HB.out).out.2.2 HN.out (Nt.allOk HK.out)).mono ?_
          rintro e w2 ⟨rfl, hb2⟩
          clear x0 x1 x2
          obtain ⟨d, hd⟩ : ∃ d, d = Nt.lcode nodes slots nf F L k := ⟨_, rfl⟩
          have HD : Hid (d = Nt.lcode nodes slots nf F L k) := hd
          rw [← hd]
          clear hd
          have HB2 : Hid (Below X.heap.size X w2) := HB.out.trans (hb2.mono HB.out.size)
          clear hb2
          by_cases hdz : d = 0
          · have hdb : (d != 0) = false := by simp [hdz]
            have HS : Hid (Nt.fst (Nt.lcode nodes slots nf F L) (k + 1) = 0) := Nt.fst_next HK.out (by rw [← HD.out]; exact hdz)
            clear hdz
            go_wp2
            go_roundw
            case rel => exact ⟨k + 1, by omega, by simp, HB2, HS⟩
            case measure => simp [intOf]; omega
          · have hdb : (d != 0) = true := by simpa using hdz
            have hs : Hid (C = d) := by show (_ : Int) = _; rw [HCC.out, Nt.fst_stop HK.out (by rw [← HD.out]; exact hdz) hkn, HD.out]
            clear hdz
            go_wp2
            go_ret
            exact ⟨by rw [hs.out]; rfl, BX.out.2.trans (HB2.out.mono hXz)⟩
        · obtain rfl : k = n := by omega
          have hs : Hid (C = 0) := by rw [HCC.out]; exact HK.out
          go_wp2
          go_ret
          exact ⟨by rw [hs.out]; rfl, BX.out.2.trans (HB.out.mono hXz)⟩
  · have hz' : (c == 0) = false := by simpa using hz
    have hz2 : (c != 0) = true := by simpa using hz
    rw [lf_net (by rw [← hc]; exact hz), ← hc]
    clear hc hz
    go_enter Try.func66, Try.ntmps66
    go_wp2_with fail
    rw [← hX]
    clear hX
    obtain ⟨x0, x1, x2⟩ := CX X (Below.refl _ _)
    go_wp2_with fail
    refine (sNf_any (H _ (Below.refl _ _)).out.1 hf).mono ?_
    rintro e w1 ⟨rfl, hb1⟩
    rw [← HC.out]
    clear x0 x1 x2
    go_wp2
    go_ret
    exact ⟨rfl, BX.out.2.trans (hb1.mono hXz)⟩
end Go.Proofs.Ytinfbbbgfkaioaa
