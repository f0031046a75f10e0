/- What is wrong with guards, in the program: contracts. -/
import Derived.Test.YtinfbbbgfkaioaaGe
import Derived.Test.YtinfbbbgfkaioaaIk
namespace Go.Proofs.Ytinfbbbgfkaioaa
open Go.RowKit
set_option linter.unusedVariables false
set_option linter.unusedSimpArgs false
/-- What is wrong with lights and guards. -/
def gfault (nodes slots : Int) (nf : Nat) (F : Nat → Fb) (n : Nat) (L : Nat → Li) (ng : Nat) (G : Nat → Gu) : Int :=
  if Nt.lfault nodes slots nf F n L = 0 then (if 20 < (ng : Int) then 2 else Nt.fst (fun k => gcd L n G k (G k)) ng) else Nt.lfault nodes slots nf F n L
theorem gf_lits {nodes slots : Int} {nf : Nat} {F : Nat → Fb} {n : Nat} {L : Nat → Li} {ng : Nat} {G : Nat → Gu} (h : Nt.lfault nodes slots nf F n L ≠ 0) : gfault nodes slots nf F n L ng G = Nt.lfault nodes slots nf F n L := by unfold gfault; rw [if_neg h]
theorem gf_many {nodes slots : Int} {nf : Nat} {F : Nat → Fb} {n : Nat} {L : Nat → Li} {ng : Nat} {G : Nat → Gu} (h : Nt.lfault nodes slots nf F n L = 0) (k : 20 < (ng : Int)) : gfault nodes slots nf F n L ng G = 2 := by unfold gfault; rw [if_pos h, if_pos k]
theorem gf_fst {nodes slots : Int} {nf : Nat} {F : Nat → Fb} {n : Nat} {L : Nat → Li} {ng : Nat} {G : Nat → Gu} (h : Nt.lfault nodes slots nf F n L = 0) (k : ¬ 20 < (ng : Int)) : gfault nodes slots nf F n L ng G = Nt.fst (fun k => gcd L n G k (G k)) ng := by unfold gfault; rw [if_pos h, if_neg k]
theorem lf_pos {nodes slots : Int} {nf : Nat} {F : Nat → Fb} {n : Nat} {L : Nat → Li} (h : Nt.lfault nodes slots nf F n L = 0) (hd : LBd n L) : ∀ i, i < n → 0 < (L i).np := by
  have g3 : Nt.AllOk nodes slots nf F n L := by
    unfold Nt.lfault at h
    by_cases z : Nt.nfault nodes slots nf F = 0
    · rw [if_pos z] at h
      by_cases y : 40 < (n : Int)
      · rw [if_pos y] at h; omega
      · rw [if_neg y] at h
        exact Nt.allOk h
    · rw [if_neg z] at h; exact absurd h z
  intro i hi
  exact (fine_of (g3.ok i hi) rfl (hd i hi).2.2.2.2.2).m1
set_option maxRecDepth 20000 in
set_option maxHeartbeats 3200000 in
theorem iGb_any {w : World} {ao lo ga : Option Addr} {nf cp n cl ng cg : Nat} {nodes slots : Int} {F : Nat → Fb} {L : Nat → Li} {G : Nat → Gu} (h : Rf w (.slice ao nf cp) nf F) (hl : RdL w (.slice lo n cl) n L) (hg : Rg w (.slice ga ng cg) ng G) (hcp : nf ≤ cp) (hf : nf ≤ 1048576) (hw : LFew n L) (hd : LBd n L) (hgc : ng ≤ cg) (hng : ng ≤ 1048576) :
    Calls Try.prog 88 #[.agg #[.int .i64 nodes, .int .i64 slots, .slice ao nf cp], .slice lo n cl, .slice ga ng cg] w fun e w' => (gfault nodes slots nf F n L ng G ≠ 0 ∧ e = .returned (.tuple #[.map none, .int .i64 (gfault nodes slots nf F n L ng G)]) ∨ gfault nodes slots nf F n L ng G = 0 ∧ ∃ b q, e = .returned (.tuple #[.map (some b), .int .i64 0]) ∧ w.heap.size ≤ b ∧ q ≤ 30000 ∧ Book w' b q (Nt.bk L n)) ∧ Below w.heap.size w w' := by
  obtain ⟨X, hX⟩ : ∃ X, X = (w.alloc (.cells #[.int .i64 nodes, .int .i64 slots, .slice ao nf cp] 37)) := ⟨_, rfl⟩
  have BX : Hid (Blk X w.heap.size #[.int .i64 nodes, .int .i64 slots, .slice ao nf cp] 37 ∧ Below w.heap.size w X) := by rw [hX]; exact ⟨Blk.new rfl, (Below.refl _ _).alloc (Nat.le_refl _) _⟩
  have hXz : w.heap.size ≤ X.heap.size := Nat.le_of_lt BX.out.1.lt
  have hnI : (n : Int) ≤ 1048576 := by have := hw.cn; omega
  have hgI : (ng : Int) ≤ 1048576 := by omega
  have hgcI : (ng : Int) ≤ cg := by omega
  have H : ∀ W, Below X.heap.size X W → Hid (Rf W (.slice ao nf cp) nf F ∧ RdL W (.slice lo n cl) n L ∧ Rg W (.slice ga ng cg) ng G) := fun W hb => ⟨h.later (BX.out.2.trans (hb.mono hXz)), hl.later (BX.out.2.trans (hb.mono hXz)), hg.later (BX.out.2.trans (hb.mono hXz))⟩
  have HW : Hid (LFew n L ∧ LBd n L ∧ nf ≤ cp ∧ nf ≤ 1048576) := ⟨hw, hd, hcp, hf⟩
  clear h hl hg hw hd hcp hf
  obtain ⟨c, hc⟩ : ∃ c, c = Nt.lfault nodes slots nf F n L := ⟨_, rfl⟩
  have HC : Hid (c = Nt.lfault nodes slots nf F n L) := hc
  clear hc
  go_enter Try.func88, Try.ntmps88
  go_wp2_with fail
  rw [← hX]
  clear hX
  have x0 := BX.out.1.cell (j := 0) (v := .int .i64 nodes) rfl
  have x1 := BX.out.1.cell (j := 1) (v := .int .i64 slots) rfl
  have x2 := BX.out.1.cell (j := 2) (v := .slice ao nf cp) rfl
  go_wp2_with fail
  refine (iBook_any (H _ (Below.refl _ _)).out.1 (H _ (Below.refl _ _)).out.2.1 HW.out.2.2.1 HW.out.2.2.2 HW.out.1 HW.out.2.1).mono ?_
  rintro e w1 ⟨hcase, hb1⟩
  have HB1 : Hid (Below X.heap.size X w1) := hb1
  clear x0 x1 x2 hb1
  rcases hcase with ⟨hne, rfl⟩ | ⟨hz, b, q, rfl, hbb, hq, hB⟩
  · rw [← HC.out]
    have hne1 : (c != 0) = true := by simpa [HC.out] using hne
    have HR : Hid (gfault nodes slots nf F n L ng G = c ∧ c ≠ 0) := ⟨by rw [gf_lits hne, HC.out], by rw [HC.out]; exact hne⟩
    clear hne
    go_wp2
    refine bodyPost_ret (v := .tuple #[.map none, .int .i64 c]) (by simp [results, Try.results88, go_sem]) rfl ⟨Or.inl ⟨by rw [HR.out.1]; exact HR.out.2, by rw [HR.out.1]⟩, BX.out.2.trans (HB1.out.mono hXz)⟩
  have HK : Hid (X.heap.size ≤ b ∧ q ≤ 30000 ∧ Book w1 b q (Nt.bk L n) ∧ Nt.lfault nodes slots nf F n L = 0) := ⟨hbb, hq, hB, hz⟩
  clear hbb hq hB hz
  by_cases h20 : 20 < (ng : Int)
  · have HR : Hid (gfault nodes slots nf F n L ng G = 2) := gf_many HK.out.2.2.2 h20
    go_wp2
    refine bodyPost_ret (v := .tuple #[.map none, .int .i64 2]) (by simp [results, Try.results88, go_sem]) rfl ⟨Or.inl ⟨by rw [HR.out]; decide, by rw [HR.out]⟩, BX.out.2.trans (HB1.out.mono hXz)⟩
  have HGF : Hid (gfault nodes slots nf F n L ng G = Nt.fst (fun k => gcd L n G k (G k)) ng) := gf_fst HK.out.2.2.2 h20
  have HPOS : Hid (∀ i, i < n → 0 < (L i).np) := lf_pos HK.out.2.2.2 HW.out.2.1
  go_wp2_with fail
  go_loopw [27] (fun i wr => ∃ k : Nat, k ≤ ng ∧ i = .int .i64 k ∧ Hid (Below w1.heap.size w1 wr) ∧ Hid (Nt.fst (fun k => gcd L n G k (G k)) k = 0)) (fun i _ => ng - (intOf i).toNat)
  case atStart => exact ⟨0, Nat.zero_le _, rfl, Below.refl _ _, rfl⟩
  case round =>
    obtain ⟨k, hk, rfl, HB, HF⟩ := hrel
    have HXr : Hid (Below X.heap.size X wr) := HB1.out.trans (HB.out.mono HB1.out.size)
    by_cases hkn : k < ng
    · obtain ⟨gb, off, rfl, hc⟩ := (H wr HXr.out).out.2.2.at hkn
      obtain ⟨g, hg⟩ : ∃ g, g = G k := ⟨_, rfl⟩
      have g0 : wr.cell? ⟨gb, off + k * 2, none⟩ = some (.int .i64 g.wk) := by rw [hg]; exact hc 0 (by omega)
      have g1 : wr.cell? ⟨gb, off + k * 2 + 1, none⟩ = some (.int .i64 g.sp) := by rw [hg]; exact hc 1 (by omega)
      have hkI : (k : Int) < ng := by omega
      have hkc : (k : Int) ≤ cg := by omega
      obtain ⟨d, hdd⟩ : ∃ d, d = gcd L n G k g := ⟨_, rfl⟩
      have HD : Hid (d = gcd L n G k (G k)) := hdd.trans (by rw [hg])
      obtain ⟨Y, hY⟩ : ∃ Y, Y = wr.alloc (.cells #[.int .i64 g.wk, .int .i64 g.sp] 77) := ⟨_, rfl⟩
      have BY : Hid (Blk Y wr.heap.size #[.int .i64 g.wk, .int .i64 g.sp] 77 ∧ Below wr.heap.size wr Y ∧ Below X.heap.size X Y) := by rw [hY]; exact ⟨Blk.new rfl, (Below.refl _ _).alloc (Nat.le_refl _) _, HXr.out.alloc HXr.out.size _⟩
      have KF0 : ∀ x : Kept Y.heap.size Y, x.w.cell? ⟨wr.heap.size, 0, none⟩ = some (.int .i64 g.wk) := fun x => kold x.h (BY.out.1.cell rfl)
      have KF1 : ∀ x : Kept Y.heap.size Y, x.w.cell? ⟨wr.heap.size, 1, none⟩ = some (.int .i64 g.sp) := fun x => kold x.h (BY.out.1.cell rfl)
      have HGt : ∀ x : Kept Y.heap.size Y, Calls Try.prog 104 #[.slice lo n cl, .slice (some ⟨gb, off, none⟩) k cg, .agg #[.int .i64 g.wk, .int .i64 g.sp]] x.w fun e w' => e = .returned (.int .i64 d) ∧ Below x.w.heap.size x.w w' := fun x => by
        have hx := (H _ (BY.out.2.2.trans (x.h.mono BY.out.2.2.size))).out
        rw [hdd]
        exact iGf_any g hx.2.1 (RdV.front hx.2.2 (Nat.le_of_lt hkn)) HW.out.1 HPOS.out (by omega)
      clear hc hg hdd
      go_upto_region 9 with fail
      rw [← hY]
      clear hY g0 g1
      refine wp_region_kept Y.heap.size (by kernel_rfl) (by kernel_rfl) ?_
      intro hne
      repeat (go_big_quiet_step (first | (go_at_call 104; exact Calls.kept_of (Nat.le_refl _) (HGt _))))
      refine wpQuiet_nil ?_
      rintro u7 ⟨xk, hxk⟩
      have hR1 := xk.h
      rw [← hxk] at hR1
      have HU : Hid (Below w1.heap.size w1 u7) := HB.out.trans ((BY.out.2.1.trans (hR1.mono BY.out.2.1.size)).mono HB.out.size)
      clear hxk xk hne KF0 KF1 HGt hR1
      by_cases hz : d = 0
      · have hz1 : (d != 0) = false := by simp [hz]
        have HS : Hid (Nt.fst (fun k => gcd L n G k (G k)) (k + 1) = 0) := Nt.fst_next HF.out (by show gcd L n G k (G k) = 0; rw [← HD.out]; exact hz)
        clear hz H
        go_wp2
        go_roundw
        case rel => exact ⟨k + 1, by omega, by simp, HU.out, HS⟩
        case measure => simp [intOf]; omega
      · have hz1 : (d != 0) = true := by simp [hz]
        have HS : Hid (gfault nodes slots nf F n L ng G = d ∧ d ≠ 0) := ⟨by rw [HGF.out, HD.out]; exact Nt.fst_stop HF.out (by show gcd L n G k (G k) ≠ 0; rw [← HD.out]; exact hz) hkn, hz⟩
        clear hz H
        go_wp2
        refine bodyPost_ret (v := .tuple #[.map none, .int .i64 d]) (by simp [results, Try.results88, go_sem]) rfl ⟨Or.inl ⟨by rw [HS.out.1]; exact HS.out.2, by rw [HS.out.1]⟩, BX.out.2.trans ((HB1.out.trans (HU.out.mono HB1.out.size)).mono hXz)⟩
    · obtain rfl : k = ng := by omega
      have HS : Hid (gfault nodes slots nf F n L k G = 0) := by rw [HGF.out]; exact HF.out
      clear H
      go_wp2
      refine bodyPost_ret (v := .tuple #[.map (some b), .int .i64 0]) (by simp [results, Try.results88, go_sem]) rfl ⟨Or.inr ⟨HS.out, b, q, rfl, Nat.le_trans hXz HK.out.1, HK.out.2.1, HK.out.2.2.1.later HB.out⟩, BX.out.2.trans (HXr.out.mono hXz)⟩
set_option maxRecDepth 20000 in
set_option maxHeartbeats 3200000 in
theorem iGsf_any {w : World} {ao lo ga : Option Addr} {nf cp n cl ng cg : Nat} {nodes slots : Int} {F : Nat → Fb} {L : Nat → Li} {G : Nat → Gu} (h : Rf w (.slice ao nf cp) nf F) (hl : RdL w (.slice lo n cl) n L) (hg : Rg w (.slice ga ng cg) ng G) (hcp : nf ≤ cp) (hf : nf ≤ 1048576) (hw : LFew n L) (hd : LBd n L) (hgc : ng ≤ cg) (hng : ng ≤ 1048576) :
    Calls Try.prog 50 #[.agg #[.int .i64 nodes, .int .i64 slots, .slice ao nf cp], .slice lo n cl, .slice ga ng cg] w fun e w' => e = .returned (.int .i64 (gfault nodes slots nf F n L ng G)) ∧ Below w.heap.size w w' := by
  obtain ⟨X, hX⟩ : ∃ X, X = (w.alloc (.cells #[.int .i64 nodes, .int .i64 slots, .slice ao nf cp] 37)) := ⟨_, rfl⟩
  have BX : Hid (Blk X w.heap.size #[.int .i64 nodes, .int .i64 slots, .slice ao nf cp] 37 ∧ Below w.heap.size w X) := by rw [hX]; exact ⟨Blk.new rfl, (Below.refl _ _).alloc (Nat.le_refl _) _⟩
  have hXz : w.heap.size ≤ X.heap.size := Nat.le_of_lt BX.out.1.lt
  have hnI : (n : Int) ≤ 1048576 := by have := hw.cn; omega
  have hgI : (ng : Int) ≤ 1048576 := by omega
  have hgcI : (ng : Int) ≤ cg := by omega
  have H : ∀ W, Below X.heap.size X W → Hid (Rf W (.slice ao nf cp) nf F ∧ RdL W (.slice lo n cl) n L ∧ Rg W (.slice ga ng cg) ng G) := fun W hb => ⟨h.later (BX.out.2.trans (hb.mono hXz)), hl.later (BX.out.2.trans (hb.mono hXz)), hg.later (BX.out.2.trans (hb.mono hXz))⟩
  have HW : Hid (LFew n L ∧ LBd n L ∧ nf ≤ cp ∧ nf ≤ 1048576) := ⟨hw, hd, hcp, hf⟩
  clear h hl hg hw hd hcp hf
  obtain ⟨c, hc⟩ : ∃ c, c = Nt.lfault nodes slots nf F n L := ⟨_, rfl⟩
  have HC : Hid (c = Nt.lfault nodes slots nf F n L) := hc
  clear hc
  go_enter Try.func50, Try.ntmps50
  go_wp2_with fail
  rw [← hX]
  clear hX
  have x0 := BX.out.1.cell (j := 0) (v := .int .i64 nodes) rfl
  have x1 := BX.out.1.cell (j := 1) (v := .int .i64 slots) rfl
  have x2 := BX.out.1.cell (j := 2) (v := .slice ao nf cp) rfl
  go_wp2_with fail
  refine (iGb_any (H _ (Below.refl _ _)).out.1 (H _ (Below.refl _ _)).out.2.1 (H _ (Below.refl _ _)).out.2.2 HW.out.2.2.1 HW.out.2.2.2 HW.out.1 HW.out.2.1 hgc hng).mono ?_
  rintro e w1 ⟨hcase, hb1⟩
  have HB1 : Hid (Below X.heap.size X w1) := hb1
  clear x0 x1 x2 hb1
  obtain ⟨d, hd⟩ : ∃ d, d = gfault nodes slots nf F n L ng G := ⟨_, rfl⟩
  have HD : Hid (gfault nodes slots nf F n L ng G = d) := hd.symm
  rcases hcase with ⟨hne, rfl⟩ | ⟨hz, b, q, rfl, hbb, hq, hB⟩
  · rw [← hd]
    clear hne hd
    go_wp2
    go_ret
    exact ⟨by rw [HD.out]; rfl, BX.out.2.trans (HB1.out.mono hXz)⟩
  · have HZ : Hid (gfault nodes slots nf F n L ng G = 0) := hz
    clear hbb hq hB hz hd HD
    go_wp2
    go_ret
    exact ⟨by rw [HZ.out]; rfl, BX.out.2.trans (HB1.out.mono hXz)⟩
end Go.Proofs.Ytinfbbbgfkaioaa
