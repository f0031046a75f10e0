/- What is wrong with guards, in the specification: contracts. -/
import Derived.Test.YtinfbbbgfkaioaaGf
namespace Go.Proofs.Ytinfbbbgfkaioaa
open Go.RowKit
set_option linter.unusedVariables false
set_option linter.unusedSimpArgs false
set_option maxRecDepth 20000 in
set_option maxHeartbeats 8000000 in
theorem sGsf_any {w : World} {ao lo ga : Option Addr} {nf cp n cl ng cg : Nat} {nodes slots : Int} {F : Nat → Fb} {L : Nat → Li} {G : Nat → Gu} (h : Rf w (.slice ao nf cp) nf F) (hl : RdL w (.slice lo n cl) n L) (hg : Rg w (.slice ga ng cg) ng G) (hcp : nf ≤ cp) (hf : nf ≤ 1048576) (hw : LFew n L) (hd : LBd n L) (hgc : ng ≤ cg) (hng : ng ≤ 1048576) :
    Calls Try.prog 45 #[.agg #[.int .i64 nodes, .int .i64 slots, .slice ao nf cp], .slice lo n cl, .slice ga ng cg] w fun e w' => e = .returned (.int .i64 (gfault nodes slots nf F n L ng G)) ∧ Below w.heap.size w w' := by
  obtain ⟨X, hX⟩ : ∃ X, X = (w.alloc (.cells #[.int .i64 nodes, .int .i64 slots, .slice ao nf cp] 37)) := ⟨_, rfl⟩
  have BX : Hid (Blk X w.heap.size #[.int .i64 nodes, .int .i64 slots, .slice ao nf cp] 37 ∧ Below w.heap.size w X) := by rw [hX]; exact ⟨Blk.new rfl, (Below.refl _ _).alloc (Nat.le_refl _) _⟩
  have hXz : w.heap.size ≤ X.heap.size := Nat.le_of_lt BX.out.1.lt
  have hnI : (n : Int) ≤ 1048576 := by have := hw.cn; omega
  have hgI : (ng : Int) ≤ 1048576 := by omega
  have hgcI : (ng : Int) ≤ cg := by omega
  have H : ∀ W, Below X.heap.size X W → Hid (Rf W (.slice ao nf cp) nf F ∧ RdL W (.slice lo n cl) n L ∧ Rg W (.slice ga ng cg) ng G) := fun W hb => ⟨h.later (BX.out.2.trans (hb.mono hXz)), hl.later (BX.out.2.trans (hb.mono hXz)), hg.later (BX.out.2.trans (hb.mono hXz))⟩
  have HW : Hid (LFew n L ∧ LBd n L ∧ nf ≤ cp ∧ nf ≤ 1048576) := ⟨hw, hd, hcp, hf⟩
  clear h hl hg hw hd hcp hf
  obtain ⟨c, hc⟩ : ∃ c, c = Nt.lfault nodes slots nf F n L := ⟨_, rfl⟩
  have HC : Hid (c = Nt.lfault nodes slots nf F n L) := hc
  clear hc
  go_enter Try.func45, Try.ntmps45
  go_wp2_with fail
  rw [← hX]
  clear hX
  have x0 := BX.out.1.cell (j := 0) (v := .int .i64 nodes) rfl
  have x1 := BX.out.1.cell (j := 1) (v := .int .i64 slots) rfl
  have x2 := BX.out.1.cell (j := 2) (v := .slice ao nf cp) rfl
  go_wp2_with fail
  refine (sLf_any (H _ (Below.refl _ _)).out.1 (H _ (Below.refl _ _)).out.2.1 HW.out.2.2.2 HW.out.1).mono ?_
  rintro e w1 ⟨rfl, hb1⟩
  rw [← HC.out]
  have HB1 : Hid (Below X.heap.size X w1) := hb1
  clear x0 x1 x2 hb1
  by_cases hcz : c = 0
  case neg =>
    have hne1 : (c != 0) = true := by simpa using hcz
    have HR : Hid (gfault nodes slots nf F n L ng G = c) := by show gfault nodes slots nf F n L ng G = c; rw [gf_lits (by rw [← HC.out]; exact hcz), HC.out]
    clear hcz
    go_wp2
    go_ret
    exact ⟨by rw [HR.out]; rfl, BX.out.2.trans (HB1.out.mono hXz)⟩
  have hne1 : (c != 0) = false := by simpa using hcz
  have HK : Hid (Nt.lfault nodes slots nf F n L = 0) := HC.out ▸ hcz
  clear hcz
  by_cases h20 : 20 < (ng : Int)
  · have HR : Hid (gfault nodes slots nf F n L ng G = 2) := gf_many HK.out h20
    go_wp2
    go_ret
    exact ⟨by rw [HR.out]; rfl, BX.out.2.trans (HB1.out.mono hXz)⟩
  have HGF : Hid (gfault nodes slots nf F n L ng G = Nt.fst (fun k => gcd L n G k (G k)) ng) := gf_fst HK.out h20
  go_wp2_with fail
  go_loopw [8] (fun i wr => ∃ k : Nat, k ≤ ng ∧ i = .int .i64 k ∧ Hid (Below X.heap.size X wr) ∧ Hid (Nt.fst (fun k => gcd L n G k (G k)) k = 0)) (fun i _ => ng - (intOf i).toNat)
  case atStart => exact ⟨0, Nat.zero_le _, rfl, HB1.out, rfl⟩
  case round =>
    obtain ⟨k, hk, rfl, HXr, HF⟩ := hrel
    by_cases hkn : k < ng
    · obtain ⟨gb, off, rfl, hc⟩ := (H wr HXr.out).out.2.2.at hkn
      obtain ⟨g, hg⟩ : ∃ g, g = G k := ⟨_, rfl⟩
      have g0 : wr.cell? ⟨gb, off + k * 2, none⟩ = some (.int .i64 g.wk) := by rw [hg]; exact hc 0 (by omega)
      have g1 : wr.cell? ⟨gb, off + k * 2 + 1, none⟩ = some (.int .i64 g.sp) := by rw [hg]; exact hc 1 (by omega)
      have hkI : (k : Int) < ng := by omega
      have hkc : (k : Int) ≤ cg := by omega
      have HG : Hid (g = G k) := hg
      obtain ⟨Y, hY⟩ : ∃ Y, Y = wr.alloc (.cells #[.int .i64 g.wk, .int .i64 g.sp] 77) := ⟨_, rfl⟩
      have BY : Hid (Blk Y wr.heap.size #[.int .i64 g.wk, .int .i64 g.sp] 77 ∧ Below X.heap.size X Y) := by rw [hY]; exact ⟨Blk.new rfl, HXr.out.alloc HXr.out.size _⟩
      obtain ⟨fa, hfa⟩ : ∃ c, c = fnd L g.wk n := ⟨_, rfl⟩
      obtain ⟨fb, hfb⟩ : ∃ c, c = fnd L g.sp n := ⟨_, rfl⟩
      have HA : ∀ W, W = Y → Calls Try.prog 67 #[.slice lo n cl, .int .i64 g.wk] W fun e w' => e = .returned (.int .i64 fa) ∧ W = w' := fun W e => by rw [e, hfa]; exact (sFind_any g.wk (H _ BY.out.2).out.2.1 (by omega)).mono (fun e w' h => ⟨h.1, h.2.symm⟩)
      have HB : ∀ W, W = Y → Calls Try.prog 67 #[.slice lo n cl, .int .i64 g.sp] W fun e w' => e = .returned (.int .i64 fb) ∧ W = w' := fun W e => by rw [e, hfb]; exact (sFind_any g.sp (H _ BY.out.2).out.2.1 (by omega)).mono (fun e w' h => ⟨h.1, h.2.symm⟩)
      have HFF : Hid (fa = fnd L g.wk n ∧ fb = fnd L g.sp n) := ⟨hfa, hfb⟩
      have BYr : Hid (Below X.heap.size X Y) := BY.out.2
      clear hc hg hfa hfb
      go_upto_region 10 with fail
      rw [← hY]
      clear hY g0 g1
      have y0 := BY.out.1.cell (j := 0) (v := .int .i64 g.wk) rfl
      have y1 := BY.out.1.cell (j := 1) (v := .int .i64 g.sp) rfl
      go_upto_region 11 with (first | (go_at_call 67; refine (HA _ rfl).mono ?_; rintro e w2 ⟨rfl, rfl⟩))
      go_upto_region 12 with (first | (go_at_call 67; refine (HB _ rfl).mono ?_; rintro e w2 ⟨rfl, rfl⟩))
      clear HA HB y0 y1
      by_cases ea : fa = -1
      · have e4 : gcd L n G k (G k) = 4 := by rw [← HG.out]; exact gcd_four (Or.inl (HFF.out.1 ▸ ea))
        have HS : Hid (gfault nodes slots nf F n L ng G = 4) := by
          show _ = _
          rw [HGF.out]
          exact (Nt.fst_stop HF.out (by show gcd L n G k (G k) ≠ 0; rw [e4]; decide) hkn).trans e4
        clear e4 H
        rw [ea]
        go_wp2
        go_ret
        exact ⟨by rw [HS.out]; rfl, BX.out.2.trans (BYr.out.mono hXz)⟩
      by_cases eb : fb = -1
      · have e4 : gcd L n G k (G k) = 4 := by rw [← HG.out]; exact gcd_four (Or.inr (HFF.out.2 ▸ eb))
        have HS : Hid (gfault nodes slots nf F n L ng G = 4) := by
          show _ = _
          rw [HGF.out]
          exact (Nt.fst_stop HF.out (by show gcd L n G k (G k) ≠ 0; rw [e4]; decide) hkn).trans e4
        have hfa0 : ¬ fa < 0 := by
          obtain ⟨k, _, h1, _⟩ := fnd_is (HFF.out.1 ▸ ea)
          rw [HFF.out.1, h1]; omega
        have hfa1 : decide (fa < 0) = false := by simpa using hfa0
        clear e4 ea H
        rw [eb]
        go_wp2
        go_ret
        exact ⟨by rw [HS.out]; rfl, BX.out.2.trans (BYr.out.mono hXz)⟩
      obtain ⟨a, han, h1, hia⟩ := fnd_is (HFF.out.1 ▸ ea)
      obtain ⟨b, hbn, h2, hib⟩ := fnd_is (HFF.out.2 ▸ eb)
      obtain rfl : fa = (a : Int) := HFF.out.1.trans h1
      obtain rfl : fb = (b : Int) := HFF.out.2.trans h2
      have HI : Hid (fnd L g.wk n = a ∧ fnd L g.sp n = b) := ⟨h1, h2⟩
      clear ea eb h1 h2 hia hib HFF
      obtain ⟨B, lof, po, pc, rfl, hca, hra⟩ := (H Y BY.out.2).out.2.1.at han
      obtain ⟨B2, lof2, qo, qc, e2, hcb, hrb⟩ := (H Y BY.out.2).out.2.1.at hbn
      simp only [Option.some.injEq, Addr.mk.injEq] at e2
      obtain ⟨rfl, rfl, _⟩ := e2
      obtain ⟨x, hx⟩ : ∃ x, x = L a := ⟨_, rfl⟩
      obtain ⟨y, hy⟩ : ∃ y, y = L b := ⟨_, rfl⟩
      have hanI : (a : Int) < n := by omega
      have hbnI : (b : Int) < n := by omega
      have KG0 : ∀ z : Kept Y.heap.size Y, z.w.cell? ⟨wr.heap.size, 0, none⟩ = some (.int .i64 g.wk) := fun z => kold z.h (BY.out.1.cell rfl)
      have KG1 : ∀ z : Kept Y.heap.size Y, z.w.cell? ⟨wr.heap.size, 1, none⟩ = some (.int .i64 g.sp) := fun z => kold z.h (BY.out.1.cell rfl)
      have KA1 : ∀ z : Kept Y.heap.size Y, z.w.cell? ⟨B, lof + a * 6 + 1, none⟩ = some (.int .i64 x.fr) := fun z => by rw [hx]; exact kold z.h (hca 1 (by omega))
      have KB1 : ∀ z : Kept Y.heap.size Y, z.w.cell? ⟨B, lof + b * 6 + 1, none⟩ = some (.int .i64 y.fr) := fun z => by rw [hy]; exact kold z.h (hcb 1 (by omega))
      have KA2 : ∀ z : Kept Y.heap.size Y, z.w.cell? ⟨B, lof + a * 6 + 2, none⟩ = some (.int .i64 x.tt) := fun z => by rw [hx]; exact kold z.h (hca 2 (by omega))
      have KB2 : ∀ z : Kept Y.heap.size Y, z.w.cell? ⟨B, lof + b * 6 + 2, none⟩ = some (.int .i64 y.tt) := fun z => by rw [hy]; exact kold z.h (hcb 2 (by omega))
      have KA3 : ∀ z : Kept Y.heap.size Y, z.w.cell? ⟨B, lof + a * 6 + 3, none⟩ = some (.slice po x.np pc) := fun z => by rw [hx]; exact kold z.h (hca 3 (by omega))
      have KB3 : ∀ z : Kept Y.heap.size Y, z.w.cell? ⟨B, lof + b * 6 + 3, none⟩ = some (.slice qo y.np qc) := fun z => by rw [hy]; exact kold z.h (hcb 3 (by omega))
      have HE : Hid (gbad L G k g a b = (((a : Int) == (b : Int)) || gin G g.wk k || gin G g.sp k || (x.fr != y.fr) || (x.tt != y.tt) || com x.p x.np y.p y.np)) := by rw [hx, hy]; rfl
      have HN : Hid (x.np ≤ 1048576 ∧ y.np ≤ 1048576) := ⟨by rw [hx]; exact HW.out.1.each han, by rw [hy]; exact HW.out.1.each hbn⟩
      have HRR : ∀ z : Kept Y.heap.size Y, Hid (RdRow z.w (.slice po x.np pc) x.np x.p ∧ RdRow z.w (.slice qo y.np qc) y.np y.p ∧ Rg z.w (.slice (some ⟨gb, off, none⟩) k cg) k G) := fun z => ⟨by rw [hx]; exact hra.later z.h, by rw [hy]; exact hrb.later z.h, RdV.front (H _ (BY.out.2.trans (z.h.mono BY.out.2.size))).out.2.2 (Nat.le_of_lt hkn)⟩
      clear hx hy hca hcb hra hrb H
      cases q0 : ((a : Int) == (b : Int)) with
      | true =>
        have e1 : gcd L n G k (G k) = 1 := by rw [← HG.out]; exact gcd_one HI.out.1 HI.out.2 (by rw [HE.out, q0]; simp)
        have HS : Hid (gfault nodes slots nf F n L ng G = 1) := by
          show _ = _
          rw [HGF.out]
          exact (Nt.fst_stop HF.out (by show gcd L n G k (G k) ≠ 0; rw [e1]; decide) hkn).trans e1
        clear e1 HRR HE 
        go_upto_region 14 with fail
        refine wp_region_kept Y.heap.size (by kernel_rfl) (by kernel_rfl) ?_
        intro hne
        repeat (go_big_quiet_step (first | fail))
        refine wpQuiet_nil ?_
        rintro u7 ⟨xk, hxk⟩
        have hR1 := xk.h
        rw [← hxk] at hR1
        have HU : Hid (Below X.heap.size X u7) := BYr.out.trans (hR1.mono BYr.out.size)
        clear hxk xk hne KG0 KG1 KA1 KA2 KA3 KB1 KB2 KB3 hR1
        go_wp2
        go_ret
        exact ⟨by rw [HS.out]; rfl, BX.out.2.trans (HU.out.mono hXz)⟩
      | false =>
        cases q1 : gin G g.wk k with
        | true =>
          have HI1 : ∀ z : Kept Y.heap.size Y, Calls Try.prog 83 #[.slice (some ⟨gb, off, none⟩) k cg, .int .i64 g.wk] z.w fun e w' => e = .returned (.bool true) ∧ Below z.w.heap.size z.w w' := fun z => by rw [← q1]; exact (sIn_any g.wk (HRR z).out.2.2 (by omega)).mono (fun e w' h => ⟨h.1, by rw [h.2]; exact Below.refl _ _⟩)
          have e1 : gcd L n G k (G k) = 1 := by rw [← HG.out]; exact gcd_one HI.out.1 HI.out.2 (by rw [HE.out, q0, q1]; simp)
          have HS : Hid (gfault nodes slots nf F n L ng G = 1) := by
            show _ = _
            rw [HGF.out]
            exact (Nt.fst_stop HF.out (by show gcd L n G k (G k) ≠ 0; rw [e1]; decide) hkn).trans e1
          clear e1 HRR HE q1
          go_upto_region 14 with fail
          refine wp_region_kept Y.heap.size (by kernel_rfl) (by kernel_rfl) ?_
          intro hne
          repeat (go_big_quiet_step (first | (go_at_call 83; with_reducible exact Calls.kept_of (Nat.le_refl _) (HI1 _))))
          refine wpQuiet_nil ?_
          rintro u7 ⟨xk, hxk⟩
          have hR1 := xk.h
          rw [← hxk] at hR1
          have HU : Hid (Below X.heap.size X u7) := BYr.out.trans (hR1.mono BYr.out.size)
          clear hxk xk hne KG0 KG1 KA1 KA2 KA3 KB1 KB2 KB3 hR1 HI1
          go_wp2
          go_ret
          exact ⟨by rw [HS.out]; rfl, BX.out.2.trans (HU.out.mono hXz)⟩
        | false =>
          cases q2 : gin G g.sp k with
          | true =>
            have HI1 : ∀ z : Kept Y.heap.size Y, Calls Try.prog 83 #[.slice (some ⟨gb, off, none⟩) k cg, .int .i64 g.wk] z.w fun e w' => e = .returned (.bool false) ∧ Below z.w.heap.size z.w w' := fun z => by rw [← q1]; exact (sIn_any g.wk (HRR z).out.2.2 (by omega)).mono (fun e w' h => ⟨h.1, by rw [h.2]; exact Below.refl _ _⟩)
            have HI2 : ∀ z : Kept Y.heap.size Y, Calls Try.prog 83 #[.slice (some ⟨gb, off, none⟩) k cg, .int .i64 g.sp] z.w fun e w' => e = .returned (.bool true) ∧ Below z.w.heap.size z.w w' := fun z => by rw [← q2]; exact (sIn_any g.sp (HRR z).out.2.2 (by omega)).mono (fun e w' h => ⟨h.1, by rw [h.2]; exact Below.refl _ _⟩)
            have e1 : gcd L n G k (G k) = 1 := by rw [← HG.out]; exact gcd_one HI.out.1 HI.out.2 (by rw [HE.out, q0, q1, q2]; simp)
            have HS : Hid (gfault nodes slots nf F n L ng G = 1) := by
              show _ = _
              rw [HGF.out]
              exact (Nt.fst_stop HF.out (by show gcd L n G k (G k) ≠ 0; rw [e1]; decide) hkn).trans e1
            clear e1 HRR HE q1 q2
            go_upto_region 14 with fail
            refine wp_region_kept Y.heap.size (by kernel_rfl) (by kernel_rfl) ?_
            intro hne
            repeat (go_big_quiet_step (first | (go_at_call 83; with_reducible exact Calls.kept_of (Nat.le_refl _) (HI1 _)) | (go_at_call 83; with_reducible exact Calls.kept_of (Nat.le_refl _) (HI2 _))))
            refine wpQuiet_nil ?_
            rintro u7 ⟨xk, hxk⟩
            have hR1 := xk.h
            rw [← hxk] at hR1
            have HU : Hid (Below X.heap.size X u7) := BYr.out.trans (hR1.mono BYr.out.size)
            clear hxk xk hne KG0 KG1 KA1 KA2 KA3 KB1 KB2 KB3 hR1 HI1 HI2
            go_wp2
            go_ret
            exact ⟨by rw [HS.out]; rfl, BX.out.2.trans (HU.out.mono hXz)⟩
          | false =>
            cases q3 : (x.fr != y.fr) with
            | true =>
              have HI1 : ∀ z : Kept Y.heap.size Y, Calls Try.prog 83 #[.slice (some ⟨gb, off, none⟩) k cg, .int .i64 g.wk] z.w fun e w' => e = .returned (.bool false) ∧ Below z.w.heap.size z.w w' := fun z => by rw [← q1]; exact (sIn_any g.wk (HRR z).out.2.2 (by omega)).mono (fun e w' h => ⟨h.1, by rw [h.2]; exact Below.refl _ _⟩)
              have HI2 : ∀ z : Kept Y.heap.size Y, Calls Try.prog 83 #[.slice (some ⟨gb, off, none⟩) k cg, .int .i64 g.sp] z.w fun e w' => e = .returned (.bool false) ∧ Below z.w.heap.size z.w w' := fun z => by rw [← q2]; exact (sIn_any g.sp (HRR z).out.2.2 (by omega)).mono (fun e w' h => ⟨h.1, by rw [h.2]; exact Below.refl _ _⟩)
              have e1 : gcd L n G k (G k) = 1 := by rw [← HG.out]; exact gcd_one HI.out.1 HI.out.2 (by rw [HE.out, q0, q1, q2, q3]; simp)
              have HS : Hid (gfault nodes slots nf F n L ng G = 1) := by
                show _ = _
                rw [HGF.out]
                exact (Nt.fst_stop HF.out (by show gcd L n G k (G k) ≠ 0; rw [e1]; decide) hkn).trans e1
              clear e1 HRR HE q1 q2
              go_upto_region 14 with fail
              refine wp_region_kept Y.heap.size (by kernel_rfl) (by kernel_rfl) ?_
              intro hne
              repeat (go_big_quiet_step (first | (go_at_call 83; with_reducible exact Calls.kept_of (Nat.le_refl _) (HI1 _)) | (go_at_call 83; with_reducible exact Calls.kept_of (Nat.le_refl _) (HI2 _))))
              refine wpQuiet_nil ?_
              rintro u7 ⟨xk, hxk⟩
              have hR1 := xk.h
              rw [← hxk] at hR1
              have HU : Hid (Below X.heap.size X u7) := BYr.out.trans (hR1.mono BYr.out.size)
              clear hxk xk hne KG0 KG1 KA1 KA2 KA3 KB1 KB2 KB3 hR1 HI1 HI2
              go_wp2
              go_ret
              exact ⟨by rw [HS.out]; rfl, BX.out.2.trans (HU.out.mono hXz)⟩
            | false =>
              cases q4 : (x.tt != y.tt) with
              | true =>
                have HI1 : ∀ z : Kept Y.heap.size Y, Calls Try.prog 83 #[.slice (some ⟨gb, off, none⟩) k cg, .int .i64 g.wk] z.w fun e w' => e = .returned (.bool false) ∧ Below z.w.heap.size z.w w' := fun z => by rw [← q1]; exact (sIn_any g.wk (HRR z).out.2.2 (by omega)).mono (fun e w' h => ⟨h.1, by rw [h.2]; exact Below.refl _ _⟩)
                have HI2 : ∀ z : Kept Y.heap.size Y, Calls Try.prog 83 #[.slice (some ⟨gb, off, none⟩) k cg, .int .i64 g.sp] z.w fun e w' => e = .returned (.bool false) ∧ Below z.w.heap.size z.w w' := fun z => by rw [← q2]; exact (sIn_any g.sp (HRR z).out.2.2 (by omega)).mono (fun e w' h => ⟨h.1, by rw [h.2]; exact Below.refl _ _⟩)
                have e1 : gcd L n G k (G k) = 1 := by rw [← HG.out]; exact gcd_one HI.out.1 HI.out.2 (by rw [HE.out, q0, q1, q2, q3, q4]; simp)
                have HS : Hid (gfault nodes slots nf F n L ng G = 1) := by
                  show _ = _
                  rw [HGF.out]
                  exact (Nt.fst_stop HF.out (by show gcd L n G k (G k) ≠ 0; rw [e1]; decide) hkn).trans e1
                clear e1 HRR HE q1 q2
                go_upto_region 14 with fail
                refine wp_region_kept Y.heap.size (by kernel_rfl) (by kernel_rfl) ?_
                intro hne
                repeat (go_big_quiet_step (first | (go_at_call 83; with_reducible exact Calls.kept_of (Nat.le_refl _) (HI1 _)) | (go_at_call 83; with_reducible exact Calls.kept_of (Nat.le_refl _) (HI2 _))))
                refine wpQuiet_nil ?_
                rintro u7 ⟨xk, hxk⟩
                have hR1 := xk.h
                rw [← hxk] at hR1
                have HU : Hid (Below X.heap.size X u7) := BYr.out.trans (hR1.mono BYr.out.size)
                clear hxk xk hne KG0 KG1 KA1 KA2 KA3 KB1 KB2 KB3 hR1 HI1 HI2
                go_wp2
                go_ret
                exact ⟨by rw [HS.out]; rfl, BX.out.2.trans (HU.out.mono hXz)⟩
              | false =>
                cases q5 : com x.p x.np y.p y.np with
                | true =>
                  have HI1 : ∀ z : Kept Y.heap.size Y, Calls Try.prog 83 #[.slice (some ⟨gb, off, none⟩) k cg, .int .i64 g.wk] z.w fun e w' => e = .returned (.bool false) ∧ Below z.w.heap.size z.w w' := fun z => by rw [← q1]; exact (sIn_any g.wk (HRR z).out.2.2 (by omega)).mono (fun e w' h => ⟨h.1, by rw [h.2]; exact Below.refl _ _⟩)
                  have HI2 : ∀ z : Kept Y.heap.size Y, Calls Try.prog 83 #[.slice (some ⟨gb, off, none⟩) k cg, .int .i64 g.sp] z.w fun e w' => e = .returned (.bool false) ∧ Below z.w.heap.size z.w w' := fun z => by rw [← q2]; exact (sIn_any g.sp (HRR z).out.2.2 (by omega)).mono (fun e w' h => ⟨h.1, by rw [h.2]; exact Below.refl _ _⟩)
                  have HI5 : ∀ z : Kept Y.heap.size Y, Calls Try.prog 84 #[.slice po x.np pc, .slice qo y.np qc] z.w fun e w' => e = .returned (.bool (!true)) ∧ Below z.w.heap.size z.w w' := fun z => by rw [← q5]; exact (sApart_any (HRR z).out.1 (HRR z).out.2.1 HN.out.1 HN.out.2).mono (fun e w' h => ⟨h.1, by rw [h.2]; exact Below.refl _ _⟩)
                  have e1 : gcd L n G k (G k) = 1 := by rw [← HG.out]; exact gcd_one HI.out.1 HI.out.2 (by rw [HE.out, q0, q1, q2, q3, q4, q5]; simp)
                  have HS : Hid (gfault nodes slots nf F n L ng G = 1) := by
                    show _ = _
                    rw [HGF.out]
                    exact (Nt.fst_stop HF.out (by show gcd L n G k (G k) ≠ 0; rw [e1]; decide) hkn).trans e1
                  clear e1 HRR HE q1 q2 q5
                  go_upto_region 14 with fail
                  refine wp_region_kept Y.heap.size (by kernel_rfl) (by kernel_rfl) ?_
                  intro hne
                  repeat (go_big_quiet_step (first | (go_at_call 83; with_reducible exact Calls.kept_of (Nat.le_refl _) (HI1 _)) | (go_at_call 83; with_reducible exact Calls.kept_of (Nat.le_refl _) (HI2 _)) | (go_at_call 84; with_reducible exact Calls.kept_of (Nat.le_refl _) (HI5 _))))
                  refine wpQuiet_nil ?_
                  rintro u7 ⟨xk, hxk⟩
                  have hR1 := xk.h
                  rw [← hxk] at hR1
                  have HU : Hid (Below X.heap.size X u7) := BYr.out.trans (hR1.mono BYr.out.size)
                  clear hxk xk hne KG0 KG1 KA1 KA2 KA3 KB1 KB2 KB3 hR1 HI1 HI2 HI5
                  go_wp2
                  go_ret
                  exact ⟨by rw [HS.out]; rfl, BX.out.2.trans (HU.out.mono hXz)⟩
                | false =>
                  have HI1 : ∀ z : Kept Y.heap.size Y, Calls Try.prog 83 #[.slice (some ⟨gb, off, none⟩) k cg, .int .i64 g.wk] z.w fun e w' => e = .returned (.bool false) ∧ Below z.w.heap.size z.w w' := fun z => by rw [← q1]; exact (sIn_any g.wk (HRR z).out.2.2 (by omega)).mono (fun e w' h => ⟨h.1, by rw [h.2]; exact Below.refl _ _⟩)
                  have HI2 : ∀ z : Kept Y.heap.size Y, Calls Try.prog 83 #[.slice (some ⟨gb, off, none⟩) k cg, .int .i64 g.sp] z.w fun e w' => e = .returned (.bool false) ∧ Below z.w.heap.size z.w w' := fun z => by rw [← q2]; exact (sIn_any g.sp (HRR z).out.2.2 (by omega)).mono (fun e w' h => ⟨h.1, by rw [h.2]; exact Below.refl _ _⟩)
                  have HI5 : ∀ z : Kept Y.heap.size Y, Calls Try.prog 84 #[.slice po x.np pc, .slice qo y.np qc] z.w fun e w' => e = .returned (.bool (!false)) ∧ Below z.w.heap.size z.w w' := fun z => by rw [← q5]; exact (sApart_any (HRR z).out.1 (HRR z).out.2.1 HN.out.1 HN.out.2).mono (fun e w' h => ⟨h.1, by rw [h.2]; exact Below.refl _ _⟩)
                  have e1 : gcd L n G k (G k) = 0 := by rw [← HG.out]; exact gcd_nil HI.out.1 HI.out.2 (by rw [HE.out, q0, q1, q2, q3, q4, q5]; simp)
                  have HS : Hid (Nt.fst (fun k => gcd L n G k (G k)) (k + 1) = 0) := Nt.fst_next HF.out e1
                  clear e1 HRR HE q1 q2 q5
                  go_upto_region 14 with fail
                  refine wp_region_kept Y.heap.size (by kernel_rfl) (by kernel_rfl) ?_
                  intro hne
                  repeat (go_big_quiet_step (first | (go_at_call 83; with_reducible exact Calls.kept_of (Nat.le_refl _) (HI1 _)) | (go_at_call 83; with_reducible exact Calls.kept_of (Nat.le_refl _) (HI2 _)) | (go_at_call 84; with_reducible exact Calls.kept_of (Nat.le_refl _) (HI5 _))))
                  refine wpQuiet_nil ?_
                  rintro u7 ⟨xk, hxk⟩
                  have hR1 := xk.h
                  rw [← hxk] at hR1
                  have HU : Hid (Below X.heap.size X u7) := BYr.out.trans (hR1.mono BYr.out.size)
                  clear hxk xk hne KG0 KG1 KA1 KA2 KA3 KB1 KB2 KB3 hR1 HI1 HI2 HI5
                  go_wp2
                  go_roundw
                  case rel => exact ⟨k + 1, by omega, by simp, HU.out, HS⟩
                  case measure => simp [intOf]; omega
    · obtain rfl : k = ng := by omega
      have HS : Hid (gfault nodes slots nf F n L k G = 0) := by show _ = _; rw [HGF.out]; exact HF.out
      clear H
      go_wp2
      go_ret
      exact ⟨by rw [HS.out]; rfl, BX.out.2.trans (HXr.out.mono hXz)⟩
end Go.Proofs.Ytinfbbbgfkaioaa
