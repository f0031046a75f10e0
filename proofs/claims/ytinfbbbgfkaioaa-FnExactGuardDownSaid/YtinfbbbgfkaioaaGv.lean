/- The specification's GuardDown: contract. -/
import Derived.Test.YtinfbbbgfkaioaaGu
import Derived.Test.YtinfbbbgfkaioaaGg
namespace Go.Proofs.Ytinfbbbgfkaioaa
open Go.RowKit
set_option linter.unusedVariables false
set_option linter.unusedSimpArgs false
/-- What the second loop of the specification's GuardDown knows: block q holds the answer so far, its guards lie from W0 on. -/
def Sgu (X W0 : World) (q : Nat) (lv : Value) (G : Nat → Gu) (t k : Nat) (W : World) : Prop :=
  ∃ (gv : Value) (c : Nat), c = (if k ≤ t then k else k - 1) ∧ Blk W q #[.int .i64 0, lv, gv] 33 ∧ W.ownsRow W0.heap.size 77 2 gv c (flat (fun i => grow2 (G (skp t i))) c) ∧ (∀ j, j < W0.heap.size → j ≠ q → W.heap[j]? = W0.heap[j]?) ∧ Below X.heap.size X W ∧ W0.heap.size ≤ W.heap.size
theorem Cpy.less {B B' : Nat} {w : World} {g n : Nat} {PB PC : Nat → Nat} {L : Nat → Li} (h : Cpy B w g n PB PC L) (hB : B' ≤ B) : Cpy B' w g n PB PC L := ⟨by have := h.1; omega, h.2.1, fun i hi => ⟨by have := (h.2.2 i hi).1; omega, (h.2.2 i hi).2⟩⟩
set_option maxRecDepth 20000 in
set_option maxHeartbeats 8000000 in
theorem sGd_any {w : World} {ao lo ga : Option Addr} {nf cp n cl ng cg : Nat} {nodes slots work : Int} {F : Nat → Fb} {L : Nat → Li} {G : Nat → Gu} {C : Int} (hC : C = gdcode nodes slots nf F n L ng G work) (h : Rf w (.slice ao nf cp) nf F) (hl : RdL w (.slice lo n cl) n L) (hg : Rg w (.slice ga ng cg) ng G) (hcp : nf ≤ cp) (hf : nf ≤ 1048576) (hw : LFew n L) (hd : LBd n L) (hgc : ng ≤ cg) (hng : ng ≤ 1048576) :
    Calls Try.prog 12 #[.agg #[.int .i64 nodes, .int .i64 slots, .slice ao nf cp], .slice lo n cl, .slice ga ng cg, .int .i64 work] w fun e w' => ∃ lv gv, e = .returned (.agg #[.int .i64 C, lv, gv]) ∧ OutG w' C lv gv (n - 2) (gdL L n G ng work) (ng - 1) (gdG G ng work) ∧ Below w.heap.size w w' := by
  obtain ⟨X, hX⟩ : ∃ X, X = ((w.alloc (.cells #[.int .i64 nodes, .int .i64 slots, .slice ao nf cp] 37)).alloc (.cells #[.int .i64 0, .slice none 0 0, .slice none 0 0] 33)) := ⟨_, rfl⟩
  have BX : Hid (Blk X w.heap.size #[.int .i64 nodes, .int .i64 slots, .slice ao nf cp] 37 ∧ Blk X (w.heap.size + 1) #[.int .i64 0, .slice none 0 0, .slice none 0 0] 33 ∧ Below w.heap.size w X) := by rw [hX]; exact ⟨(Blk.new rfl).alloc _, Blk.new (by simp), ((Below.refl _ _).alloc (Nat.le_refl _) _).alloc (by simp) _⟩
  have hXz : w.heap.size ≤ X.heap.size := Nat.le_of_lt BX.out.1.lt
  have hnI : (n : Int) ≤ 1048576 := by have := hw.cn; omega
  have hgI : (ng : Int) ≤ 1048576 := by omega
  have H : ∀ W, Below X.heap.size X W → Hid (Rf W (.slice ao nf cp) nf F ∧ RdL W (.slice lo n cl) n L ∧ Rg W (.slice ga ng cg) ng G) := fun W hb => ⟨h.later (BX.out.2.2.trans (hb.mono hXz)), hl.later (BX.out.2.2.trans (hb.mono hXz)), hg.later (BX.out.2.2.trans (hb.mono hXz))⟩
  have HW : Hid (LFew n L ∧ LBd n L ∧ nf ≤ cp ∧ nf ≤ 1048576 ∧ ng ≤ cg ∧ ng ≤ 1048576) := ⟨hw, hd, hcp, hf, hgc, hng⟩
  clear h hl hg hw hd hcp hf hgc hng
  obtain ⟨c, hc⟩ : ∃ c, c = gfault nodes slots nf F n L ng G := ⟨_, rfl⟩
  have HC : Hid (c = gfault nodes slots nf F n L ng G) := hc
  have HCC : Hid (C = gdcode nodes slots nf F n L ng G work) := hC
  clear hc hC
  go_enter Try.func12, Try.ntmps12
  go_wp2_with fail
  rw [← hX]
  clear hX
  have x0 := BX.out.1.cell (j := 0) (v := .int .i64 nodes) rfl
  have x1 := BX.out.1.cell (j := 1) (v := .int .i64 slots) rfl
  have x2 := BX.out.1.cell (j := 2) (v := .slice ao nf cp) rfl
  go_wp2_with fail
  refine (sGsf_any (H _ (Below.refl _ _)).out.1 (H _ (Below.refl _ _)).out.2.1 (H _ (Below.refl _ _)).out.2.2 HW.out.2.2.1 HW.out.2.2.2.1 HW.out.1 HW.out.2.1 HW.out.2.2.2.2.1 HW.out.2.2.2.2.2).mono ?_
  rintro e w1 ⟨rfl, hb1⟩
  rw [← HC.out]
  have HB1 : Hid (Below X.heap.size X w1) := hb1
  clear x0 x1 x2 hb1
  by_cases hcz : c = 0
  case neg =>
    have hne1 : (c != 0) = true := by simpa using hcz
    have HCv : Hid (C = c) := by show C = c; rw [HCC.out, gdc_net (by rw [← HC.out]; exact hcz), HC.out]
    have HCn : Hid (C ≠ 0) := by rw [HCv.out]; exact hcz
    have hB := BX.out.2.1.old HB1.out
    have y0 := hB.cell (j := 0) rfl
    have y1 := hB.cell (j := 1) rfl
    have y2 := hB.cell (j := 2) rfl
    have f0 := hB.frozen
    clear hB hcz
    go_wp2
    refine bodyPost_ret (v := .agg #[.int .i64 c, .slice none 0 0, .slice none 0 0]) (by simp [results, Try.results12, go_sem, y0, y1, y2]) rfl ⟨_, _, by rw [HCv.out], Or.inl ⟨HCn.out, rfl, rfl⟩, ?_⟩
    exact BX.out.2.2.trans (Below.setCell (Below.setCell (Below.setCell (HB1.out.mono hXz) (by simp) _) (by simp) _) (by simp) _)
  have hne1 : (c != 0) = false := by simpa using hcz
  have HG0 : Hid (gfault nodes slots nf F n L ng G = 0) := HC.out ▸ hcz
  clear hcz
  obtain ⟨Y, hY⟩ : ∃ Y, Y = w1.alloc (.cells #[.int .i64 4, .slice none 0 0, .slice none 0 0] 33) := ⟨_, rfl⟩
  have BY : Hid (Blk Y w1.heap.size #[.int .i64 4, .slice none 0 0, .slice none 0 0] 33 ∧ Blk Y (w.heap.size + 1) #[.int .i64 0, .slice none 0 0, .slice none 0 0] 33 ∧ Below X.heap.size X Y ∧ Below w1.heap.size w1 Y ∧ w1.heap.size < Y.heap.size) := by rw [hY]; exact ⟨Blk.new rfl, (BX.out.2.1.old HB1.out).alloc _, HB1.out.alloc HB1.out.size _, (Below.refl _ _).alloc (Nat.le_refl _) _, by simp⟩
  have hq : w.heap.size + 1 < w1.heap.size := (BX.out.2.1.old HB1.out).lt
  have hX1 : X.heap.size ≤ w1.heap.size := HB1.out.size
  go_upto_region 5 with fail
  rw [← hY]
  clear hY
  by_cases hk : fnd (gli G) work ng = -1
  · have HCv : Hid (C = 4) := by show C = 4; rw [HCC.out]; exact gdc_none HG0.out hk
    have HNo : Hid (∀ k, k < ng → ((G k).wk == work) = false) := fun k hkn => by have := fnd_no hk k hkn; simpa [gli] using this
    clear hk
    go_wp2_with fail
    go_loopw [11] (fun i wr => ∃ k : Nat, k ≤ ng ∧ i = .int .i64 k ∧ wr = Y) (fun i _ => ng - (intOf i).toNat)
    case atStart => exact ⟨0, Nat.zero_le _, rfl, rfl⟩
    case round =>
      obtain ⟨k, hk, rfl, hwr⟩ := hrel
      subst hwr
      by_cases hkn : k < ng
      · obtain ⟨gb, off, rfl, hc⟩ := (H wr BY.out.2.2.1).out.2.2.at hkn
        obtain ⟨g, hg⟩ : ∃ g, g = G k := ⟨_, rfl⟩
        have g0 : wr.cell? ⟨gb, off + k * 2, none⟩ = some (.int .i64 g.wk) := by rw [hg]; exact hc 0 (by omega)
        have hs : (g.wk == work) = false := by rw [hg]; exact HNo.out k hkn
        have hkI : (k : Int) < ng := by omega
        clear hc hg
        go_wp2
        go_roundw
        case rel => exact ⟨k + 1, by omega, by simp, by trivial⟩
        case measure => simp [intOf]; omega
      · obtain rfl : k = ng := by omega
        have z0 := BY.out.1.cell (j := 0) (v := .int .i64 4) rfl
        have z1 := BY.out.1.cell (j := 1) (v := .slice none 0 0) rfl
        have z2 := BY.out.1.cell (j := 2) (v := .slice none 0 0) rfl
        have y0 := BY.out.2.1.cell (j := 0) rfl
        have y1 := BY.out.2.1.cell (j := 1) rfl
        have y2 := BY.out.2.1.cell (j := 2) rfl
        have f0 := BY.out.2.1.frozen
        clear H
        go_wp2
        refine bodyPost_ret (v := .agg #[.int .i64 4, .slice none 0 0, .slice none 0 0]) (by simp [results, Try.results12, go_sem, y0, y1, y2]) rfl ⟨_, _, by rw [HCv.out], Or.inl ⟨by rw [HCv.out]; decide, rfl, rfl⟩, ?_⟩
        exact BX.out.2.2.trans (Below.setCell (Below.setCell (Below.setCell (BY.out.2.2.1.mono hXz) (by simp) _) (by simp) _) (by simp) _)
  obtain ⟨N, t, M, a, b, e1, ht, e2, e3, ha, hb, hab, e4, e5, e6, e7, e8, hone⟩ := gd_found HG0.out hk
  have HCv : Hid (C = 0) := by show C = 0; rw [HCC.out]; exact gdc_ok HG0.out hk
  have HL : Hid (gdL L n G ng work = (fun i => L (two a b i)) ∧ gdG G ng work = (fun i => G (skp t i)) ∧ n - 2 = M ∧ ng - 1 = N) := by
    have eT : gdT G work ng = t := by unfold gdT; rw [e2]; simp
    refine ⟨funext fun i => ?_, funext fun i => ?_, by omega, by omega⟩
    · unfold gdL; rw [eT, e4, e5]; simp
    · unfold gdG; rw [eT]
  obtain ⟨n40, hok⟩ := gd_good (gf_zero HG0.out).1
  have HM : Hid (n = M + 2 ∧ ng = N + 1 ∧ a < M + 2 ∧ b < M + 2 ∧ a ≠ b ∧ (∀ j, j < N + 1 → ((G j).wk == work) = decide (j = t))) := ⟨e3, e1, ha, hb, hab, hone⟩
  have H1 : Hid (LFew (M + 1) (fun i => L (skp a i)) ∧ (∀ i, i < M + 1 → 0 < (L (skp a i)).np) ∧ (∀ k, k < M + 1 + 1 → ((L k).id != work) = !decide (k = a)) ∧ (∀ k, k < M + 1 → ((L (skp a k)).id != (G t).sp) = !decide (k = bk1 a b)) ∧ (∀ i, i < n → 0 < (L i).np)) := by
    obtain ⟨s1, s2, s3⟩ := skp_few (a := a) hok (M := M + 1) (by omega) n40 (by omega)
    refine ⟨s1, s2, fun k hk => ?_, fun k hk => ?_, fun i hi => (hok.ok i hi).one⟩
    · by_cases c : k = a
      · subst c; simp [e6]
      · have : (L k).id ≠ work := fun e => c (hok.id_one (by omega) (by omega) (e.trans e6.symm))
        simp [this, c]
    · by_cases c : k = bk1 a b
      · subst c; rw [skp_bk1 hab, e7]; simp
      · have : (L (skp a k)).id ≠ (G t).sp := fun e => c (skp_inj (t := a) ((hok.id_one (j := b) (s3 k hk) (show b < n by omega) (e.trans e7.symm)).trans (skp_bk1 hab).symm))
        simp [this, c]
  have htn : t < ng := by omega
  have htI : (t : Int) < ng := by omega
  have hb1M : Hid (bk1 a b < M + 1) := by show bk1 a b < M + 1; unfold bk1; split <;> omega
  clear hk e1 e2 e3 e4 e5 e6 e7 e8 ha hb hab hone n40 hok
  go_wp2_with fail
  have HAll : Hid ((∀ W, Below X.heap.size X W → Calls Try.prog 46 #[.slice lo n cl, .int .i64 work] W fun e w' => ∃ g c PB PC, e = .returned (.slice (some ⟨g, 0, none⟩) (M + 1) c) ∧ Cpy W.heap.size w' g (M + 1) PB PC (fun i => L (skp a i)) ∧ Below W.heap.size W w') ∧
      (∀ (W : World) (B g c : Nat) (PB PC : Nat → Nat), Cpy B W g (M + 1) PB PC (fun i => L (skp a i)) → Calls Try.prog 46 #[.slice (some ⟨g, 0, none⟩) (M + 1) c, .int .i64 (G t).sp] W fun e w' => ∃ g' c' PB' PC', e = .returned (.slice (some ⟨g', 0, none⟩) M c') ∧ Cpy W.heap.size w' g' M PB' PC' (fun i => L (two a b i)) ∧ Below W.heap.size W w')) := by
    refine ⟨fun W hb => ?_, fun W B g c PB PC hc => ?_⟩
    · have h := (H W hb).out.2.1
      have hw := HW.out.1
      have hp := H1.out.2.2.2.2
      rw [show n = M + 1 + 1 from HM.out.1] at h hw hp ⊢
      exact sOut_any work h hw hp (by have := HM.out.2.2.1; omega) H1.out.2.2.1
    · exact sOut_any (L := fun i => L (skp a i)) (G t).sp hc.rd H1.out.1 H1.out.2.1 hb1M.out H1.out.2.2.2.1
  go_loopw [11] (fun i wr => ∃ k : Nat, k ≤ ng ∧ i = .int .i64 k ∧ Hid ((k ≤ t ∧ wr = Y) ∨ (t < k ∧ ∃ g cc PB PC, Blk wr w1.heap.size #[.int .i64 0, .slice (some ⟨g, 0, none⟩) M cc, .slice none 0 0] 33 ∧ Cpy Y.heap.size wr g M PB PC (fun i => L (two a b i)) ∧ (∀ j, j < Y.heap.size → j ≠ w1.heap.size → wr.heap[j]? = Y.heap[j]?) ∧ Below X.heap.size X wr ∧ Y.heap.size ≤ wr.heap.size))) (fun i _ => ng - (intOf i).toNat)
  case atStart => exact ⟨0, Nat.zero_le _, rfl, Or.inl ⟨Nat.zero_le _, rfl⟩⟩
  case round =>
    obtain ⟨k, hk, rfl, HR⟩ := hrel
    have HXr : Hid (Below X.heap.size X wr) := by
      rcases HR.out with ⟨_, h⟩ | ⟨_, g, cc, PB, PC, _, _, _, h, _⟩
      · rw [h]; exact BY.out.2.2.1
      · exact h
    by_cases hkn : k < ng
    · obtain ⟨gb, off, rfl, hc⟩ := (H X (Below.refl _ _)).out.2.2.at hkn
      obtain ⟨g, hg⟩ : ∃ g, g = G k := ⟨_, rfl⟩
      have hc0 : X.cell? ⟨gb, off + k * 2, none⟩ = some (.int .i64 g.wk) := by rw [hg]; exact hc 0 (by omega)
      have hc1 : X.cell? ⟨gb, off + k * 2 + 1, none⟩ = some (.int .i64 g.sp) := by rw [hg]; exact hc 1 (by omega)
      have HC2 : Hid (∀ W, Below X.heap.size X W → W.cell? ⟨gb, off + k * 2, none⟩ = some (.int .i64 g.wk) ∧ W.cell? ⟨gb, off + k * 2 + 1, none⟩ = some (.int .i64 g.sp)) := fun W hb => ⟨kold hb hc0, kold hb hc1⟩
      have g0 := (HC2.out wr HXr.out).1
      have hkI : (k : Int) < ng := by omega
      have hs : (g.wk == work) = decide (k = t) := by rw [hg]; exact HM.out.2.2.2.2.2 k (by have := HM.out.2.1; omega)
      have HG : Hid (g = G k) := hg
      clear hc hc0 hc1 hg
      by_cases hkt : k = t
      · rw [decide_eq_true hkt] at hs
        have hwr : wr = Y := by
          rcases HR.out with h | h
          · exact h.2
          · exact absurd h.1 (by omega)
        have HKT : Hid (k = t) := hkt
        have HSP : Hid (∀ (W : World) (B g' c : Nat) (PB PC : Nat → Nat), Cpy B W g' (M + 1) PB PC (fun i => L (skp a i)) → Calls Try.prog 46 #[.slice (some ⟨g', 0, none⟩) (M + 1) c, .int .i64 g.sp] W fun e w' => ∃ g' c' PB' PC', e = .returned (.slice (some ⟨g', 0, none⟩) M c') ∧ Cpy W.heap.size w' g' M PB' PC' (fun i => L (two a b i)) ∧ Below W.heap.size W w') := by
          rw [HG.out, HKT.out]; exact HAll.out.2
        obtain ⟨Z, hZ⟩ : ∃ Z, Z = wr.setCell ⟨w1.heap.size, 0, none⟩ (.int .i64 0) := ⟨_, rfl⟩
        have BZ : Hid (Blk Z w1.heap.size #[.int .i64 0, .slice none 0 0, .slice none 0 0] 33 ∧ (∀ j, j ≠ w1.heap.size → Z.heap[j]? = Y.heap[j]?) ∧ Z.heap.size = Y.heap.size) := by
          rw [hZ, hwr]
          exact ⟨Blk.set BY.out.1 0 _ rfl, fun j hj => Below.heap_setCell _ _ _ _ hj, by simp⟩
        have hXZ : Below X.heap.size X Z := by rw [hZ]; exact HXr.out.setCell (by exact hX1) _
        have z0 : wr.cell? ⟨w1.heap.size, 0, none⟩ = some (.int .i64 4) := by rw [hwr]; exact BY.out.1.cell (j := 0) rfl
        have zf : ∀ j, wr.frozen? ⟨w1.heap.size, j, none⟩ = false := by rw [hwr]; exact BY.out.1.frozen
        have zl : w1.heap.size < wr.heap.size := by rw [hwr]; exact BY.out.2.2.2.2
        have g1 := (HC2.out Z hXZ).2
        clear hkt hwr
        go_upto_region 10 with fail
        rw [← hZ]
        clear hZ z0 zf zl g0
        go_region_law (first
          | (go_simp; go_at_call_of 46 (Value.slice lo n cl); refine (HAll.out.1 _ (by go_grown)).mono ?_; rintro e w2 ⟨g2, c2, PB2, PC2, rfl, hc2, hb2⟩; have hx2 : Below Z.heap.size Z w2 := box_step (by go_grown) hb2 (Nat.le_refl _); have g1b := (HC2.out w2 (hXZ.trans (hx2.mono hXZ.size))).2)
          | (go_simp; go_at_call 46; refine (HSP.out _ _ _ _ _ _ hc2).mono ?_; rintro e w3 ⟨g3, c3, PB3, PC3, rfl, hc3, hb3⟩; have hx3 : Below Z.heap.size Z w3 := box_step hx2 hb3 (Nat.le_refl _); have y1 := (BZ.out.1.old hx3).cell (j := 1) (v := .slice none 0 0) rfl; have yf := (BZ.out.1.old hx3).frozen; have yl := (BZ.out.1.old hx3).lt))
        all_goals
          have HN : Hid (t < k + 1 ∧ ∃ g cc PB PC, Blk (w3.setCell ⟨w1.heap.size, 1, none⟩ (.slice (some ⟨g3, 0, none⟩) M c3)) w1.heap.size #[.int .i64 0, .slice (some ⟨g, 0, none⟩) M cc, .slice none 0 0] 33 ∧ Cpy Y.heap.size (w3.setCell ⟨w1.heap.size, 1, none⟩ (.slice (some ⟨g3, 0, none⟩) M c3)) g M PB PC (fun i => L (two a b i)) ∧ (∀ j, j < Y.heap.size → j ≠ w1.heap.size → (w3.setCell ⟨w1.heap.size, 1, none⟩ (.slice (some ⟨g3, 0, none⟩) M c3)).heap[j]? = Y.heap[j]?) ∧ Below X.heap.size X (w3.setCell ⟨w1.heap.size, 1, none⟩ (.slice (some ⟨g3, 0, none⟩) M c3)) ∧ Y.heap.size ≤ (w3.setCell ⟨w1.heap.size, 1, none⟩ (.slice (some ⟨g3, 0, none⟩) M c3)).heap.size) := by
            have s2 := hx2.size
            have s3 := hx3.size
            have sz := BZ.out.2.2
            have sy := BY.out.2.2.2.2
            refine ⟨by have := HKT.out; omega, g3, c3, PB3, PC3, Blk.set (BZ.out.1.old hx3) 1 _ rfl, (hc3.keep (fun j hj => Below.heap_setCell _ _ _ _ (by show j ≠ w1.heap.size; omega))).less (by omega), fun j hj hne => ?_, (hXZ.trans (hx3.mono hXZ.size)).setCell (by exact hX1) _, by simp; omega⟩
            rw [Below.heap_setCell _ _ _ _ (by exact hne), hx3.block j (by omega)]
            exact BZ.out.2.1 j hne
          clear hc2 hc3 hx2 hx3 hb2 hb3 y1 yf yl g1 g1b hXZ
          go_wp2
          go_roundw
          case rel => exact ⟨k + 1, by omega, by simp, Or.inr HN.out⟩
          case measure => simp [intOf]; omega
      · rw [decide_eq_false hkt] at hs
        have HN : Hid ((k + 1 ≤ t ∧ wr = Y) ∨ (t < k + 1 ∧ ∃ g cc PB PC, Blk wr w1.heap.size #[.int .i64 0, .slice (some ⟨g, 0, none⟩) M cc, .slice none 0 0] 33 ∧ Cpy Y.heap.size wr g M PB PC (fun i => L (two a b i)) ∧ (∀ j, j < Y.heap.size → j ≠ w1.heap.size → wr.heap[j]? = Y.heap[j]?) ∧ Below X.heap.size X wr ∧ Y.heap.size ≤ wr.heap.size)) := by
          rcases HR.out with h | h
          · exact Or.inl ⟨by omega, h.2⟩
          · exact Or.inr ⟨by omega, h.2⟩
        clear hkt HR
        go_wp2
        go_roundw
        case rel => exact ⟨k + 1, by omega, by simp, HN⟩
        case measure => simp [intOf]; omega
    · obtain rfl : k = ng := by omega
      obtain ⟨_, g, cc, PB, PC, r1, r2, r3, r4, r5⟩ : t < k ∧ ∃ g cc PB PC, Blk wr w1.heap.size #[.int .i64 0, .slice (some ⟨g, 0, none⟩) M cc, .slice none 0 0] 33 ∧ Cpy Y.heap.size wr g M PB PC (fun i => L (two a b i)) ∧ (∀ j, j < Y.heap.size → j ≠ w1.heap.size → wr.heap[j]? = Y.heap[j]?) ∧ Below X.heap.size X wr ∧ Y.heap.size ≤ wr.heap.size := by
        rcases HR.out with h | h
        · exact absurd h.1 (by omega)
        · exact h
      obtain ⟨W0, hW0⟩ : ∃ W0, W0 = wr := ⟨_, rfl⟩
      have z0 : wr.cell? ⟨w1.heap.size, 0, none⟩ = some (.int .i64 0) := r1.cell (j := 0) rfl
      rw [← hW0] at r1 r2 r3 r4 r5 z0 ⊢
      clear hW0 HR HXr HAll
      have R0 : Hid (Blk W0 w1.heap.size #[.int .i64 0, .slice (some ⟨g, 0, none⟩) M cc, .slice none 0 0] 33 ∧ Cpy Y.heap.size W0 g M PB PC (fun i => L (two a b i)) ∧ (∀ j, j < Y.heap.size → j ≠ w1.heap.size → W0.heap[j]? = Y.heap[j]?) ∧ Below X.heap.size X W0 ∧ Y.heap.size ≤ W0.heap.size) := ⟨r1, r2, r3, r4, r5⟩
      clear r1 r2 r3 r4 r5
      go_wp2_with fail
      clear z0
      go_loopw [12] (fun i wr => ∃ j : Nat, j ≤ k ∧ i = .int .i64 j ∧ Hid (Sgu X W0 w1.heap.size (.slice (some ⟨g, 0, none⟩) M cc) G t j wr)) (fun i _ => k - (intOf i).toNat)
      case atStart => exact ⟨0, Nat.zero_le _, rfl, .slice none 0 0, 0, by simp, R0.out.1, ⟨by simp [flat_zero], Or.inl ⟨rfl, rfl⟩⟩, fun _ _ _ => rfl, R0.out.2.2.2.1, Nat.le_refl _⟩
      case round =>
        obtain ⟨j, hj, rfl, HR⟩ := hrel
        obtain ⟨gv, c2, ec, r1, r2, r3, r4, r5⟩ := HR.out
        have RR : Hid (c2 = (if j ≤ t then j else j - 1) ∧ Blk wr w1.heap.size #[.int .i64 0, .slice (some ⟨g, 0, none⟩) M cc, gv] 33 ∧ wr.ownsRow W0.heap.size 77 2 gv c2 (flat (fun i => grow2 (G (skp t i))) c2) ∧ (∀ j, j < W0.heap.size → j ≠ w1.heap.size → wr.heap[j]? = W0.heap[j]?) ∧ Below X.heap.size X wr ∧ W0.heap.size ≤ wr.heap.size) := ⟨ec, r1, r2, r3, r4, r5⟩
        clear ec r1 r2 r3 r4 r5
        by_cases hjn : j < k
        · obtain ⟨gb, off, rfl, hc⟩ := (H wr RR.out.2.2.2.2.1).out.2.2.at hjn
          obtain ⟨x, hx⟩ : ∃ x, x = G j := ⟨_, rfl⟩
          have g0 : wr.cell? ⟨gb, off + j * 2, none⟩ = some (.int .i64 x.wk) := by rw [hx]; exact hc 0 (by omega)
          have g1 : wr.cell? ⟨gb, off + j * 2 + 1, none⟩ = some (.int .i64 x.sp) := by rw [hx]; exact hc 1 (by omega)
          have hs : (x.wk == work) = decide (j = t) := by rw [hx]; exact HM.out.2.2.2.2.2 j (by have := HM.out.2.1; omega)
          have hjI : (j : Int) < k := by omega
          have HX : Hid (x = G j) := hx
          clear hc hx H
          by_cases hjt : j = t
          · have hs2 : (x.wk != work) = false := by rw [bne, hs, decide_eq_true hjt]; rfl
            have HN : Hid (Sgu X W0 w1.heap.size (.slice (some ⟨g, 0, none⟩) M cc) G t (j + 1) wr) := ⟨_, c2, by rw [RR.out.1, if_pos (by omega), if_neg (by omega)]; omega, RR.out.2⟩
            clear hs hjt g1
            go_wp2
            go_roundw
            case rel => exact ⟨j + 1, by omega, by simp, HN⟩
            case measure => simp [intOf]; omega
          · have hs2 : (x.wk != work) = true := by rw [bne, hs, decide_eq_false hjt]; rfl
            have HE : Hid (c2 + 1 = (if j + 1 ≤ t then j + 1 else j + 1 - 1) ∧ skp t c2 = j) := by
              have e := RR.out.1
              by_cases c : j ≤ t
              · rw [if_pos c] at e
                refine ⟨by rw [if_pos (by omega)]; omega, by unfold skp; rw [if_pos (by omega)]; exact e⟩
              · rw [if_neg c] at e
                refine ⟨by rw [if_neg (by omega)]; omega, by unfold skp; rw [if_neg (by omega)]; omega⟩
            have hlen : c2 ≤ 1000000000 := by have := HE.out.1; split at this <;> omega
            clear hs hjt
            have hszV : W0.heap.size ≤ wr.drew.heap.size := by rw [World.size_drew]; exact RR.out.2.2.2.2.2
            have HV : Hid (wr.drew.ownsRow W0.heap.size 77 2 gv c2 (flat (fun i => grow2 (G (skp t i))) c2)) := own_keep3 RR.out.2.2.1 fun _ _ _ => rfl
            have v2 := RR.out.2.1.cell (j := 2) (v := gv) rfl
            have vf := RR.out.2.1.frozen
            have vl := RR.out.2.1.lt
            have hqW : w1.heap.size < W0.heap.size := R0.out.1.lt
            go_upto_region 17 with fail
            go_region_law (first | (refine step_pushV rfl (.tmp 64) (.tmp 69) 31 rfl 77 (.agg #[.int .i64 0, .int .i64 0]) 2 16 Try.underlying31 infoGd rfl (by decide) (by decide) wr.drew [.int .i64 x.wk, .int .i64 x.sp] rfl (by simp [Value.oneCell']) W0.heap.size gv c2 (flat (fun i => grow2 (G (skp t i))) c2) (by simp [Act.eval, Act.put]) HV.out 1 (by simp [Act.eval, Act.put]) hlen hszV ?_; intro nv w3 own3 grow3; obtain ⟨gq, cq, hnv⟩ := own_succ own3; subst hnv; have hB3 : Below W0.heap.size wr w3 := pushV_below HV.out grow3 ((Below.refl _ _).drew) hszV; have m2 : w3.cell? ⟨w1.heap.size, 2, none⟩ = some gv := (hB3.cell hqW).trans v2; have mf : w3.frozen? ⟨w1.heap.size, 2, none⟩ = false := (hB3.frozen (p := ⟨w1.heap.size, 2, none⟩) hqW).trans (vf 2); have ml : w1.heap.size < w3.heap.size := (by have := hB3.size; omega)))
            all_goals
              have HN : Hid (Sgu X W0 w1.heap.size (.slice (some ⟨g, 0, none⟩) M cc) G t (j + 1) (w3.setCell ⟨w1.heap.size, 2, none⟩ (.slice (some ⟨gq, 0, none⟩) (c2 + 1) cq))) := by
                have gb3 : ∀ i, i < W0.heap.size → w3.heap[i]? = wr.heap[i]? := fun i hi => hB3.block i hi
                have hs4 : ∀ i, i ≠ w1.heap.size → (w3.setCell ⟨w1.heap.size, 2, none⟩ (.slice (some ⟨gq, 0, none⟩) (c2 + 1) cq)).heap[i]? = w3.heap[i]? := fun i hi => Below.heap_setCell _ _ _ _ hi
                have hX0 := R0.out.2.2.2.1.size
                refine ⟨_, c2 + 1, HE.out.1, Blk.set ((gb3 _ hqW).trans RR.out.2.1) 2 _ rfl, ?_, fun i hi hne => ((hs4 i hne).trans (gb3 i hi)).trans (RR.out.2.2.2.1 i hi hne), (RR.out.2.2.2.2.1.trans (hB3.mono hX0)).setCell (by exact hX1) _, ?_⟩
                · rw [flat_succ, HE.out.2, ← HX.out]
                  exact own_keep3 own3 fun i a b => hs4 i (by omega)
                · have := hB3.size
                  have := RR.out.2.2.2.2.2
                  simp; omega
              clear own3 grow3 hB3 m2 mf ml v2 vf vl g0 g1
              go_wp2
              go_roundw
              case rel => exact ⟨j + 1, by omega, by simp, HN⟩
              case measure => simp [intOf]; omega
        · obtain rfl : j = k := by omega
          obtain rfl : c2 = N := by have := RR.out.1; rw [if_neg (by omega)] at this; have := HM.out.2.1; omega
          obtain ⟨go, gc, egv⟩ := row_shape RR.out.2.2.1
          subst egv
          have z0 := RR.out.2.1.cell (j := 0) (v := .int .i64 0) rfl
          have z1 := RR.out.2.1.cell (j := 1) (v := .slice (some ⟨g, 0, none⟩) M cc) rfl
          have z2 := RR.out.2.1.cell (j := 2) (v := .slice go c2 gc) rfl
          have hqW : w1.heap.size < W0.heap.size := R0.out.1.lt
          have hres : Hid (Blk wr (w.heap.size + 1) #[.int .i64 0, .slice none 0 0, .slice none 0 0] 33) := by
            have e1 := RR.out.2.2.2.1 (w.heap.size + 1) (by omega) (by omega)
            have e2 := R0.out.2.2.1 (w.heap.size + 1) (by have := BY.out.2.2.2.2; omega) (by omega)
            exact (e1.trans e2).trans BY.out.2.1
          have y0 := hres.out.cell (j := 0) rfl
          have y1 := hres.out.cell (j := 1) rfl
          have y2 := hres.out.cell (j := 2) rfl
          have f0 := hres.out.frozen
          clear H
          go_wp2
          refine bodyPost_ret (v := .agg #[.int .i64 0, .slice (some ⟨g, 0, none⟩) M cc, .slice go c2 gc]) (by simp [results, Try.results12, go_sem, y0, y1, y2]) rfl ⟨_, _, by rw [HCv.out], Or.inr ⟨HCv.out, ?_, ?_⟩, ?_⟩
          · rw [HL.out.1, HL.out.2.2.1]
            have hc := R0.out.2.1
            have hy := BY.out.2.2.2.2
            refine (hc.keep2 (hi := W0.heap.size) hc.2.1.lt (fun i hi => (hc.2.2 i hi).2.lt) fun i h1 h2 => ?_).rd
            rw [Below.heap_setCell _ _ _ _ (by show i ≠ w.heap.size + 1; omega), Below.heap_setCell _ _ _ _ (by show i ≠ w.heap.size + 1; omega), Below.heap_setCell _ _ _ _ (by show i ≠ w.heap.size + 1; omega)]
            exact RR.out.2.2.2.1 i h2 (by omega)
          · rw [HL.out.2.1, HL.out.2.2.2]
            refine own_gds (base := W0.heap.size) (own_keep3 RR.out.2.2.1 fun i h1 h2 => ?_)
            rw [Below.heap_setCell _ _ _ _ (by show i ≠ w.heap.size + 1; omega), Below.heap_setCell _ _ _ _ (by show i ≠ w.heap.size + 1; omega), Below.heap_setCell _ _ _ _ (by show i ≠ w.heap.size + 1; omega)]
          · exact BX.out.2.2.trans (Below.setCell (Below.setCell (Below.setCell (RR.out.2.2.2.2.1.mono hXz) (by simp) _) (by simp) _) (by simp) _)
end Go.Proofs.Ytinfbbbgfkaioaa
