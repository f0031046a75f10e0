/- The program's GuardDown: contract. -/
import Derived.Test.YtinfbbbgfkaioaaGr
import Derived.Test.YtinfbbbgfkaioaaGt
import Derived.Test.YtinfbbbgfkaioaaGu
namespace Go.Proofs.Ytinfbbbgfkaioaa
open Go.RowKit
set_option linter.unusedVariables false
set_option linter.unusedSimpArgs false
theorem OwLs.low {lo lo' hi : Nat} {w : World} {g n : Nat} {L : Nat → Li} (h : OwLs lo hi w g n L) (hl : lo' ≤ lo) : OwLs lo' hi w g n L := by
  obtain ⟨PB, PC, q1, q2, q3, q4, q5⟩ := h
  exact ⟨PB, PC, by omega, q2, q3, fun i hi => ⟨by have := (q4 i hi).1; omega, (q4 i hi).2⟩, q5⟩
/-- A code, lights and guards that own their memory, from lo on, below hi: first the lights', then the guards'. -/
def OwnG (lo hi : Nat) (w : World) (c : Int) (lv gv : Value) (n : Nat) (L : Nat → Li) (m : Nat) (G : Nat → Gu) : Prop :=
  (c ≠ 0 ∧ lv = .slice none 0 0 ∧ gv = .slice none 0 0) ∨ (c = 0 ∧ ∃ mid g1 c1 g2 c2, lo ≤ mid ∧ mid ≤ hi ∧ lv = .slice (some ⟨g1, 0, none⟩) n c1 ∧ gv = .slice (some ⟨g2, 0, none⟩) m c2 ∧ OwLs lo mid w g1 n L ∧ OwG mid hi w g2 m G)
set_option maxRecDepth 20000 in
set_option maxHeartbeats 8000000 in
theorem iGd_any {w : World} {ao lo ga : Option Addr} {nf cp n cl ng cg : Nat} {nodes slots work : Int} {F : Nat → Fb} {L : Nat → Li} {G : Nat → Gu} {C : Int} (hC : C = gdcode nodes slots nf F n L ng G work) (h : Rf w (.slice ao nf cp) nf F) (hl : RdL w (.slice lo n cl) n L) (hg : Rg w (.slice ga ng cg) ng G) (hcp : nf ≤ cp) (hf : nf ≤ 1048576) (hw : LFew n L) (hd : LBd n L) (hgc : ng ≤ cg) (hng : ng ≤ 1048576) :
    Calls Try.prog 16 #[.agg #[.int .i64 nodes, .int .i64 slots, .slice ao nf cp], .slice lo n cl, .slice ga ng cg, .int .i64 work] w fun e w' => ∃ lv gv, e = .returned (.agg #[.int .i64 C, lv, gv]) ∧ OwnG w.heap.size w'.heap.size w' C lv gv (n - 2) (gdL L n G ng work) (ng - 1) (gdG G ng work) ∧ Below w.heap.size w w' := by
  obtain ⟨X, hX⟩ : ∃ X, X = (((w.alloc (.cells #[.int .i64 nodes, .int .i64 slots, .slice ao nf cp] 37)).alloc (.cells #[.int .i64 work] 2)).alloc (.cells #[.int .i64 0, .slice none 0 0, .slice none 0 0] 33)) := ⟨_, rfl⟩
  have BX : Hid (Blk X w.heap.size #[.int .i64 nodes, .int .i64 slots, .slice ao nf cp] 37 ∧ Blk X (w.heap.size + 1) #[.int .i64 work] 2 ∧ Blk X (w.heap.size + 2) #[.int .i64 0, .slice none 0 0, .slice none 0 0] 33 ∧ Below w.heap.size w X) := by rw [hX]; exact ⟨((Blk.new rfl).alloc _).alloc _, (Blk.new (by simp)).alloc _, Blk.new (by simp), (((Below.refl _ _).alloc (Nat.le_refl _) _).alloc (by simp) _).alloc (by simp; omega) _⟩
  have hXz : w.heap.size ≤ X.heap.size := Nat.le_of_lt BX.out.1.lt
  have hnI : (n : Int) ≤ 1048576 := by have := hw.cn; omega
  have hgI : (ng : Int) ≤ 1048576 := by omega
  have H : ∀ W, Below X.heap.size X W → Hid (Rf W (.slice ao nf cp) nf F ∧ RdL W (.slice lo n cl) n L ∧ Rg W (.slice ga ng cg) ng G) := fun W hb => ⟨h.later (BX.out.2.2.2.trans (hb.mono hXz)), hl.later (BX.out.2.2.2.trans (hb.mono hXz)), hg.later (BX.out.2.2.2.trans (hb.mono hXz))⟩
  have HW : Hid (LFew n L ∧ LBd n L ∧ nf ≤ cp ∧ nf ≤ 1048576 ∧ ng ≤ cg ∧ ng ≤ 1048576) := ⟨hw, hd, hcp, hf, hgc, hng⟩
  clear h hl hg hw hd hcp hf hgc hng
  obtain ⟨c, hc⟩ : ∃ c, c = gfault nodes slots nf F n L ng G := ⟨_, rfl⟩
  have HC : Hid (c = gfault nodes slots nf F n L ng G) := hc
  have HCC : Hid (C = gdcode nodes slots nf F n L ng G work) := hC
  clear hc hC
  go_enter Try.func16, Try.ntmps16
  go_wp2_with fail
  rw [← hX]
  clear hX
  have x0 := BX.out.1.cell (j := 0) (v := .int .i64 nodes) rfl
  have x1 := BX.out.1.cell (j := 1) (v := .int .i64 slots) rfl
  have x2 := BX.out.1.cell (j := 2) (v := .slice ao nf cp) rfl
  go_wp2_with fail
  refine (iGsf_any (H _ (Below.refl _ _)).out.1 (H _ (Below.refl _ _)).out.2.1 (H _ (Below.refl _ _)).out.2.2 HW.out.2.2.1 HW.out.2.2.2.1 HW.out.1 HW.out.2.1 HW.out.2.2.2.2.1 HW.out.2.2.2.2.2).mono ?_
  rintro e w1 ⟨rfl, hb1⟩
  rw [← HC.out]
  have HB1 : Hid (Below X.heap.size X w1) := hb1
  clear x0 x1 x2 hb1
  by_cases hcz : c = 0
  case neg =>
    have hne1 : (c != 0) = true := by simpa using hcz
    have HCv : Hid (C = c) := by show C = c; rw [HCC.out, gdc_net (by rw [← HC.out]; exact hcz), HC.out]
    have HCn : Hid (C ≠ 0) := by rw [HCv.out]; exact hcz
    have hB := BX.out.2.2.1.old HB1.out
    have y0 := hB.cell (j := 0) rfl
    have y1 := hB.cell (j := 1) rfl
    have y2 := hB.cell (j := 2) rfl
    have f0 := hB.frozen
    clear hB hcz
    go_wp2
    refine bodyPost_ret (v := .agg #[.int .i64 c, .slice none 0 0, .slice none 0 0]) (by simp [results, Try.results16, go_sem, y0, y1, y2]) rfl ⟨_, _, by rw [HCv.out], Or.inl ⟨HCn.out, rfl, rfl⟩, ?_⟩
    exact BX.out.2.2.2.trans (Below.setCell (Below.setCell (Below.setCell (HB1.out.mono hXz) (by simp; omega) _) (by simp; omega) _) (by simp; omega) _)
  have hne1 : (c != 0) = false := by simpa using hcz
  have HG0 : Hid (gfault nodes slots nf F n L ng G = 0) := HC.out ▸ hcz
  clear hcz
  have hwk : Hid (w1.cell? ⟨w.heap.size + 1, 0, none⟩ = some (.int .i64 work)) := (BX.out.2.1.old HB1.out).cell rfl
  go_wp2_with fail
  refine (gwx_any work (H _ HB1.out).out.2.2 HW.out.2.2.2.2.2 hwk.out).mono ?_
  rintro e w2 ⟨rfl, hb2⟩
  have HB2 : Hid (Below X.heap.size X w2) := HB1.out.trans (hb2.mono HB1.out.size)
  clear hb2
  by_cases hk : fnd (gli G) work ng = -1
  · have HCv : Hid (C = 4) := by show C = 4; rw [HCC.out]; exact gdc_none HG0.out hk
    have hB := BX.out.2.2.1.old HB2.out
    have y0 := hB.cell (j := 0) rfl
    have y1 := hB.cell (j := 1) rfl
    have y2 := hB.cell (j := 2) rfl
    have f0 := hB.frozen
    rw [hk]
    clear hB hk
    go_wp2
    refine bodyPost_ret (v := .agg #[.int .i64 4, .slice none 0 0, .slice none 0 0]) (by simp [results, Try.results16, go_sem, y0, y1, y2]) rfl ⟨_, _, by rw [HCv.out], Or.inl ⟨by rw [HCv.out]; decide, rfl, rfl⟩, ?_⟩
    exact BX.out.2.2.2.trans (Below.setCell (Below.setCell (Below.setCell (HB2.out.mono hXz) (by simp; omega) _) (by simp; omega) _) (by simp; omega) _)
  obtain ⟨N, t, M, a, b, e1, ht, e2, e3, ha, hb, hab, e4, e5, e6, e7, e8, hone⟩ := gd_found HG0.out hk
  have HCv : Hid (C = 0) := by show C = 0; rw [HCC.out]; exact gdc_ok HG0.out hk
  have HL : Hid (gdL L n G ng work = (fun i => L (two a b i)) ∧ gdG G ng work = (fun i => G (skp t i)) ∧ n - 2 = M ∧ ng - 1 = N) := by
    have eT : gdT G work ng = t := by unfold gdT; rw [e2]; simp
    refine ⟨funext fun i => ?_, funext fun i => ?_, by omega, by omega⟩
    · unfold gdL; rw [eT, e4, e5]; simp
    · unfold gdG; rw [eT]
  obtain ⟨n40, hok⟩ := gd_good (gf_zero HG0.out).1
  have HM : Hid (n = M + 2 ∧ ng = N + 1 ∧ a < M + 2 ∧ b < M + 2 ∧ a ≠ b) := ⟨e3, e1, ha, hb, hab⟩
  obtain ⟨g, hgt⟩ : ∃ g, g = G t := ⟨_, rfl⟩
  have HS : Hid ((∀ k, k < n → gone g (L k).id = decide (k = a ∨ k = b)) ∧ ∀ i, i < n → 0 < (L i).np) := by
    refine ⟨fun k hk => ?_, fun i hi => (hok.ok i hi).one⟩
    have q1 : (g.wk == (L k).id) = decide (k = a) := by
      rw [hgt, e8]
      by_cases c : k = a
      · subst c; simp [e6]
      · have : work ≠ (L k).id := fun e => c (hok.id_one (j := a) hk (show a < n by omega) (e.symm.trans e6.symm))
        simp [this, c]
    have q2 : (g.sp == (L k).id) = decide (k = b) := by
      rw [hgt]
      by_cases c : k = b
      · subst c; simp [e7]
      · have : (G t).sp ≠ (L k).id := fun e => c (hok.id_one (j := b) hk (show b < n by omega) (e.symm.trans e7.symm))
        simp [this, c]
    unfold gone
    rw [q1, q2, Bool.decide_or]
  have HGT : Hid (g = G t) := hgt
  have htn : t < ng := by omega
  have htI : (t : Int) < ng := by omega
  obtain ⟨gb, off, hga, hc⟩ := (H w2 HB2.out).out.2.2.at htn
  have g0 : w2.cell? ⟨gb, off + t * 2, none⟩ = some (.int .i64 g.wk) := by rw [hgt]; exact hc 0 (by omega)
  have g1 : w2.cell? ⟨gb, off + t * 2 + 1, none⟩ = some (.int .i64 g.sp) := by rw [hgt]; exact hc 1 (by omega)
  subst hga
  rw [e2]
  have ht0 : decide ((t : Int) < 0) = false := by simp
  clear hk e1 e2 e3 e4 e5 e6 e7 e8 ha hb hab hone n40 hok hc hgt
  obtain ⟨Y, hY⟩ : ∃ Y, Y = w2.alloc (.cells #[.int .i64 g.wk, .int .i64 g.sp] 77) := ⟨_, rfl⟩
  have BY : Hid (Blk Y w2.heap.size #[.int .i64 g.wk, .int .i64 g.sp] 77 ∧ Blk Y (w.heap.size + 2) #[.int .i64 0, .slice none 0 0, .slice none 0 0] 33 ∧ Below X.heap.size X Y) := by rw [hY]; exact ⟨Blk.new rfl, (BX.out.2.2.1.old HB2.out).alloc _, HB2.out.alloc HB2.out.size _⟩
  have hq : w.heap.size + 2 < w2.heap.size := (BX.out.2.2.1.old HB2.out).lt
  go_upto_region 8 with fail
  rw [← hY]
  clear hY g0 g1
  go_wp2_with fail
  refine (copyL_any (H _ BY.out.2.2).out.2.1 (by have := HM.out.1; omega) HW.out.1 HS.out.2).mono ?_
  rintro e w3 ⟨gl, C3, rfl, hC3, hO3, hb3⟩
  have H3 : Hid (n ≤ C3 ∧ OwLs Y.heap.size w3.heap.size w3 gl n L ∧ Below Y.heap.size Y w3 ∧ Y.heap.size ≤ w3.heap.size ∧ Y.heap.size ≤ gl) := ⟨hC3, hO3, hb3, hb3.size, by obtain ⟨_, _, q, _⟩ := hO3; exact q⟩
  clear hC3 hO3 hb3
  have HD : Hid (Calls Try.prog 53 #[.slice (some ⟨gl, 0, none⟩) n C3, .func (.func 55) #[] #[.pointer (some ⟨w2.heap.size, 0, none⟩)]] w3 fun e w' => e = .returned (.slice (some ⟨gl, 0, none⟩) M C3) ∧ OwLs Y.heap.size w3.heap.size w' gl M (fun i => L (two a b i)) ∧ Onl gl w3 w') := by
    have hO := H3.out.2.1
    have hT : Two w2.heap.size g n a b L w3 := ⟨(BY.out.1.old H3.out.2.2.1).cell rfl, (BY.out.1.old H3.out.2.2.1).cell rfl, HS.out.1⟩
    have hC := H3.out.1
    have hcn := HW.out.1.cn
    rw [HM.out.1] at hO hT hC hcn ⊢
    exact delG_any hO (Nat.le_refl _) hT HM.out.2.2.1 HM.out.2.2.2.1 HM.out.2.2.2.2 hC hcn (by have := H3.out.2.2.2.2; have := BY.out.1.lt; omega)
  go_wp2_with fail
  refine HD.out.mono ?_
  rintro e w4 ⟨rfl, hO4, hn4⟩
  have H4 : Hid (OwLs Y.heap.size w3.heap.size w4 gl M (fun i => L (two a b i)) ∧ Below Y.heap.size Y w4 ∧ w3.heap.size ≤ w4.heap.size) := ⟨hO4, H3.out.2.2.1.trans (hn4.below.mono H3.out.2.2.2.2), hn4.below.size⟩
  clear hO4 hn4 HD
  go_wp2_with fail
  refine (cloneG_any (H _ (BY.out.2.2.trans (H4.out.2.1.mono BY.out.2.2.size))).out.2.2 (by omega) HW.out.2.2.2.2.2).mono ?_
  rintro e w5 ⟨gg, C5, rfl, hC5, hg5, hs5, hb5⟩
  have H5 : Hid (ng ≤ C5 ∧ w4.heap.size ≤ gg ∧ SegV w5 gg 77 ng 2 (fun i j => gcell (G i) j) ∧ Below w4.heap.size w4 w5) := ⟨hC5, hg5, hs5, hb5⟩
  clear hC5 hg5 hs5 hb5
  have HE : Hid (Calls Try.prog 57 #[.slice (some ⟨gg, 0, none⟩) ng C5, .int .i64 t, .int .i64 (t + 1)] w5 fun e w' => e = .returned (.slice (some ⟨gg, 0, none⟩) N C5) ∧ SegV w' gg 77 N 2 (fun i j => gcell (G (skp t i)) j) ∧ Onl gg w5 w') := by
    have h1 := H5.out.1
    have h2 := H5.out.2.2.1
    have h3 := HW.out.2.2.2.2.2
    have h4 := htn
    rw [HM.out.2.1] at h1 h2 h3 h4 ⊢
    exact delOne_any h2 h4 h1 h3
  go_wp2_with fail
  refine HE.out.mono ?_
  rintro e w6 ⟨rfl, hs6, hn6⟩
  have H6 : Hid (SegV w6 gg 77 N 2 (fun i j => gcell (G (skp t i)) j) ∧ Onl gg w5 w6) := ⟨hs6, hn6⟩
  clear hs6 hn6 HE
  have HB6 : Hid (Below Y.heap.size Y w6) := (H4.out.2.1.trans (H5.out.2.2.2.mono (by have := H4.out.2.1.size; omega))).trans (H6.out.2.below.mono (by have := H5.out.2.1; have := H4.out.2.1.size; omega))
  have hB := BY.out.2.1.old HB6.out
  have y0 := hB.cell (j := 0) rfl
  have y1 := hB.cell (j := 1) rfl
  have y2 := hB.cell (j := 2) rfl
  have f0 := hB.frozen
  clear hB
  go_wp2
  refine bodyPost_ret (v := .agg #[.int .i64 0, .slice (some ⟨gl, 0, none⟩) M C3, .slice (some ⟨gg, 0, none⟩) N C5]) (by simp [results, Try.results16, go_sem, y0, y1, y2]) rfl ⟨_, _, by rw [HCv.out], Or.inr ⟨HCv.out, ?_⟩, ?_⟩
  · rw [HL.out.1, HL.out.2.1, HL.out.2.2.1, HL.out.2.2.2]
    have z1 := BY.out.1.lt
    have z2 := H3.out.2.2.2.1
    have z3 := H4.out.2.2
    have z4 := H5.out.2.1
    have z5 := H5.out.2.2.2.size
    have z6 := H6.out.2.below.size
    have z7 := H6.out.1.lt
    refine ⟨w3.heap.size, gl, C3, gg, C5, by omega, by simp; omega, rfl, rfl, (OwLs.keep H4.out.1 fun k h1 h2 => ?_).low (by omega), ⟨by omega, by simpa using z7, H6.out.1.of_block ?_⟩⟩
    · rw [Below.heap_setCell _ _ _ _ (by show k ≠ w.heap.size + 2; omega), Below.heap_setCell _ _ _ _ (by show k ≠ w.heap.size + 2; omega), Below.heap_setCell _ _ _ _ (by show k ≠ w.heap.size + 2; omega), H6.out.2.rest k (by omega) (by omega), H5.out.2.2.2.block k (by omega)]
    · rw [Below.heap_setCell _ _ _ _ (by show gg ≠ w.heap.size + 2; omega), Below.heap_setCell _ _ _ _ (by show gg ≠ w.heap.size + 2; omega), Below.heap_setCell _ _ _ _ (by show gg ≠ w.heap.size + 2; omega)]
  · exact BX.out.2.2.2.trans (Below.setCell (Below.setCell (Below.setCell ((BY.out.2.2.trans (HB6.out.mono BY.out.2.2.size)).mono hXz) (by simp; omega) _) (by simp; omega) _) (by simp; omega) _)
end Go.Proofs.Ytinfbbbgfkaioaa
