/- At every argument the program's LowestSlide answers as the specification, where the law's own bound on the sizes does not answer first; what it answers owns its memory; nothing that was there is changed. -/
import Derived.Test.YtinfbbbgfkaioaaTx
import Derived.Test.YtinfbbbgfkaioaaOl
import Derived.Test.YtinfbbbgfkaioaaRw
import Derived.Test.YtinfbbbgfkaioaaLm
import Derived.Handy
import Derived.Deep.RegionHeld3
import Derived.Deep.DeepCutAuto
namespace Go.Proofs.Ytinfbbbgfkaioaa.LawLowestSlide
open Go.ChangeShapes Go.WideShapes Go.ChangeAt Go.RowKit Go.Joins
set_option linter.unusedVariables false

set_option maxHeartbeats 4000000 in
set_option maxRecDepth 20000 in
theorem walk {w : World} {nodes0 slots0 : Int} {ao0 : Option Addr} {nf0 cp0 : Nat} {F0 : Nat → Fb} (hf0 : Rf w (.slice ao0 nf0 cp0) nf0 F0) (nb0 : nf0 ≤ 9223372036854775807) (wl00 : -9223372036854775808 ≤ nodes0) (wl10 : nodes0 ≤ 9223372036854775807) (wl20 : -9223372036854775808 ≤ slots0) (wl30 : slots0 ≤ 9223372036854775807) {v1 : Value} {nl1 : Nat} {L1 : Nat → Li} (h1 : RdL w v1 nl1 L1) (nb1 : nl1 ≤ 9223372036854775807) (lb1 : LBd nl1 L1) (n2 : Int) (na2 : -9223372036854775808 ≤ n2) (nz2 : n2 ≤ 9223372036854775807) :
    Calls Try.prog 5 #[.agg #[.int .i64 nodes0, .int .i64 slots0, .slice ao0 nf0 cp0], v1, .int .i64 n2] w fun e w' => e = .returned (.bool true) ∧ Below w.heap.size w w' := by
  have H0 : Hid (Rf w (.slice ao0 nf0 cp0) nf0 F0) := hf0
  clear hf0
  obtain ⟨va1, vc1, ev1⟩ : ∃ ao cap, v1 = .slice ao nl1 cap := h1.shape
  subst ev1
  have H1 : Hid (RdL w (.slice va1 nl1 vc1) nl1 L1) := h1
  have HB1 : Hid (LBd nl1 L1) := lb1
  clear h1 lb1
  have D_w : Hid (Below w.heap.size w w) := Below.refl _ _
  have zw : w.heap.size ≤ w.heap.size := Nat.le_refl _
  obtain ⟨c, hcc⟩ : ∃ c, c = lslide nodes0 slots0 nf0 F0 nl1 L1 n2 := ⟨_, rfl⟩
  have HCC : Hid (c = lslide nodes0 slots0 nf0 F0 nl1 L1 n2) := hcc
  clear hcc
  go_enter Try.func5, Try.ntmps5
  go_wp2_with fail
  obtain ⟨w1, hwd⟩ : ∃ W, W = w.alloc (.cells #[.int .i64 nodes0, .int .i64 slots0, .slice ao0 nf0 cp0] 24) := ⟨_, rfl⟩
  have B_a0 : Hid (Blk w1 w.heap.size #[.int .i64 nodes0, .int .i64 slots0, .slice ao0 nf0 cp0] 24) := by rw [hwd]; exact Blk.new rfl
  have hbb : Below w.heap.size w w1 := by rw [hwd]; exact (Below.refl _ _).alloc (Nat.le_refl _) _
  rw [← hwd]
  clear hwd
  have zw1 : w.heap.size ≤ w1.heap.size := hbb.size
  replace D_w : Hid (Below w.heap.size w w1) := D_w.out.trans (hbb.mono (by omega))
  clear hbb
  refine (szNet_any _ _ _ _ _ 1048576 _ (by omega) (by omega) nb0).mono ?_
  rintro e w2 ⟨rfl, hbb⟩
  have zw2 : w1.heap.size ≤ w2.heap.size := hbb.size
  replace B_a0 : Hid (Blk w2 w.heap.size #[.int .i64 nodes0, .int .i64 slots0, .slice ao0 nf0 cp0] 24) := B_a0.out.old hbb
  replace D_w : Hid (Below w.heap.size w w2) := D_w.out.trans (hbb.mono (by omega))
  clear hbb
  obtain ⟨left0, hleft0⟩ : ∃ l, l = szN 1048576 nf0 := ⟨_, rfl⟩
  rw [← hleft0]
  by_cases hr0 : left0 < 0
  · go_wp2
    go_ret
    exact ⟨rfl, D_w.out⟩
  have hs0 := szN_ok (hleft0 ▸ hr0)
  have hs0b : left0 ≤ 1048576 := by rw [hleft0]; exact szN_le _ _ (by omega)
  clear hleft0
  have c_a0_0 := B_a0.out.cell (j := 0) rfl
  have c_a0_1 := B_a0.out.cell (j := 1) rfl
  have c_a0_2 := B_a0.out.cell (j := 2) rfl
  have l_a0 := B_a0.out.lt
  go_wp2_with fail
  refine (szLits_any (H1.out.later D_w.out) left0 (by omega) (by omega) nb1 HB1.out).mono ?_
  rintro e w3 ⟨left1, rfl, ht, hbb⟩
  clear c_a0_0 c_a0_1 c_a0_2 l_a0
  have zw3 : w2.heap.size ≤ w3.heap.size := hbb.size
  replace B_a0 : Hid (Blk w3 w.heap.size #[.int .i64 nodes0, .int .i64 slots0, .slice ao0 nf0 cp0] 24) := B_a0.out.old hbb
  replace D_w : Hid (Below w.heap.size w w3) := D_w.out.trans (hbb.mono (by omega))
  clear hbb
  have HT1 : Hid (ToldL nl1 L1 left0 left1) := ht
  clear ht
  by_cases hr1 : left1 < 0
  · go_wp2
    go_ret
    exact ⟨rfl, D_w.out⟩
  have hs1 := ToldL.ok HT1.out hr1
  have hs1b : left1 ≤ left0 := ToldL.le HT1.out hr1
  have hm1 : (nl1 : Int) ≤ 1048576 := by omega
  have HS1 : Hid (LFew nl1 L1) := ⟨by omega, by have := hs1; omega⟩
  clear HT1
  have c_a0_0 := B_a0.out.cell (j := 0) rfl
  have c_a0_1 := B_a0.out.cell (j := 1) rfl
  have c_a0_2 := B_a0.out.cell (j := 2) rfl
  have l_a0 := B_a0.out.lt
  go_wp2_with fail
  refine (toNet_any (H0.out.later D_w.out) (by omega)).mono ?_
  rintro e w4 ⟨gc0, rfl, hmo, hbb⟩
  clear c_a0_0 c_a0_1 c_a0_2 l_a0
  have zw4 : w3.heap.size ≤ w4.heap.size := hbb.size
  replace B_a0 : Hid (Blk w4 w.heap.size #[.int .i64 nodes0, .int .i64 slots0, .slice ao0 nf0 cp0] 24) := B_a0.out.old hbb
  replace D_w : Hid (Below w.heap.size w w4) := D_w.out.trans (hbb.mono (by omega))
  clear hbb
  have O_c0 : Hid (OwB w3.heap.size w4.heap.size w4 gc0 nf0 F0) := hmo
  clear hmo
  go_wp2_with fail
  refine (toLits_any (H1.out.later D_w.out) HS1.out).mono ?_
  rintro e w5 ⟨gc1, rfl, hmo, hbb⟩
  have zw5 : w4.heap.size ≤ w5.heap.size := hbb.size
  replace B_a0 : Hid (Blk w5 w.heap.size #[.int .i64 nodes0, .int .i64 slots0, .slice ao0 nf0 cp0] 24) := B_a0.out.old hbb
  replace O_c0 : Hid (OwB w3.heap.size w4.heap.size w5 gc0 nf0 F0) := O_c0.out.keep (keep_below hbb (by omega))
  replace D_w : Hid (Below w.heap.size w w5) := D_w.out.trans (hbb.mono (by omega))
  clear hbb
  have O_c1 : Hid (OwLs w4.heap.size w5.heap.size w5 gc1 nl1 L1) := hmo
  clear hmo
  go_wp2_with fail
  refine (sLow_any n2 O_c0.out.rd O_c1.out.rd (by omega) HS1.out HS1.out.cn).mono ?_
  rintro e w6 ⟨rfl, hbb⟩
  have zw6 : w5.heap.size ≤ w6.heap.size := hbb.size
  replace B_a0 : Hid (Blk w6 w.heap.size #[.int .i64 nodes0, .int .i64 slots0, .slice ao0 nf0 cp0] 24) := B_a0.out.old hbb
  replace O_c0 : Hid (OwB w3.heap.size w4.heap.size w6 gc0 nf0 F0) := O_c0.out.keep (keep_below hbb (by omega))
  replace O_c1 : Hid (OwLs w4.heap.size w5.heap.size w6 gc1 nl1 L1) := O_c1.out.keep (keep_below hbb (by omega))
  replace D_w : Hid (Below w.heap.size w w6) := D_w.out.trans (hbb.mono (by omega))
  clear hbb
  rw [← HCC.out]
  clear O_c0
  clear O_c1
  have c_a0_0 := B_a0.out.cell (j := 0) rfl
  have c_a0_1 := B_a0.out.cell (j := 1) rfl
  have c_a0_2 := B_a0.out.cell (j := 2) rfl
  have l_a0 := B_a0.out.lt
  go_wp2_with fail
  refine (toNet_any (H0.out.later D_w.out) (by omega)).mono ?_
  rintro e w7 ⟨gx0, rfl, hmo, hbb⟩
  clear c_a0_0 c_a0_1 c_a0_2 l_a0
  have zw7 : w6.heap.size ≤ w7.heap.size := hbb.size
  replace B_a0 : Hid (Blk w7 w.heap.size #[.int .i64 nodes0, .int .i64 slots0, .slice ao0 nf0 cp0] 24) := B_a0.out.old hbb
  replace D_w : Hid (Below w.heap.size w w7) := D_w.out.trans (hbb.mono (by omega))
  clear hbb
  have O_x0 : Hid (OwB w6.heap.size w7.heap.size w7 gx0 nf0 F0) := hmo
  clear hmo
  go_wp2_with fail
  obtain ⟨w8, hwd⟩ : ∃ W, W = w7.alloc (.cells #[.int .i64 nodes0, .int .i64 slots0, .slice (some ⟨gx0, 0, none⟩) nf0 nf0] 37) := ⟨_, rfl⟩
  have NB : Hid (Blk w8 w7.heap.size #[.int .i64 nodes0, .int .i64 slots0, .slice (some ⟨gx0, 0, none⟩) nf0 nf0] 37) := by rw [hwd]; exact Blk.new rfl
  have hbb : Below w7.heap.size w7 w8 := by rw [hwd]; exact (Below.refl _ _).alloc (Nat.le_refl _) _
  have yw8 : w7.heap.size + 1 ≤ w8.heap.size := by rw [hwd]; simp
  rw [← hwd]
  clear hwd
  have zw8 : w7.heap.size ≤ w8.heap.size := hbb.size
  replace B_a0 : Hid (Blk w8 w.heap.size #[.int .i64 nodes0, .int .i64 slots0, .slice ao0 nf0 cp0] 24) := B_a0.out.old hbb
  replace O_x0 : Hid (OwB w6.heap.size w7.heap.size w8 gx0 nf0 F0) := O_x0.out.keep (keep_below hbb (by omega))
  replace D_w : Hid (Below w.heap.size w w8) := D_w.out.trans (hbb.mono (by omega))
  clear hbb
  have B_x0 := NB
  clear NB
  refine (toLits_any (H1.out.later D_w.out) HS1.out).mono ?_
  rintro e w9 ⟨gx1, rfl, hmo, hbb⟩
  have zw9 : w8.heap.size ≤ w9.heap.size := hbb.size
  replace B_a0 : Hid (Blk w9 w.heap.size #[.int .i64 nodes0, .int .i64 slots0, .slice ao0 nf0 cp0] 24) := B_a0.out.old hbb
  replace B_x0 : Hid (Blk w9 w7.heap.size #[.int .i64 nodes0, .int .i64 slots0, .slice (some ⟨gx0, 0, none⟩) nf0 nf0] 37) := B_x0.out.old hbb
  replace O_x0 : Hid (OwB w6.heap.size w7.heap.size w9 gx0 nf0 F0) := O_x0.out.keep (keep_below hbb (by omega))
  replace D_w : Hid (Below w.heap.size w w9) := D_w.out.trans (hbb.mono (by omega))
  clear hbb
  have O_x1 : Hid (OwLs w8.heap.size w9.heap.size w9 gx1 nl1 L1) := hmo
  clear hmo
  have c_x0_0 := B_x0.out.cell (j := 0) rfl
  have c_x0_1 := B_x0.out.cell (j := 1) rfl
  have c_x0_2 := B_x0.out.cell (j := 2) rfl
  have l_x0 := B_x0.out.lt
  go_wp2_with fail
  refine (iLow_any n2 O_x0.out.rd O_x1.out.rd (by omega) HS1.out (Nat.le_refl _) HB1.out HS1.out.cn).mono ?_
  rintro e w10 ⟨rfl, hbb⟩
  clear c_x0_0 c_x0_1 c_x0_2 l_x0
  have zw10 : w9.heap.size ≤ w10.heap.size := hbb.size
  replace B_a0 : Hid (Blk w10 w.heap.size #[.int .i64 nodes0, .int .i64 slots0, .slice ao0 nf0 cp0] 24) := B_a0.out.old hbb
  replace B_x0 : Hid (Blk w10 w7.heap.size #[.int .i64 nodes0, .int .i64 slots0, .slice (some ⟨gx0, 0, none⟩) nf0 nf0] 37) := B_x0.out.old hbb
  replace O_x0 : Hid (OwB w6.heap.size w7.heap.size w10 gx0 nf0 F0) := O_x0.out.keep (keep_below hbb (by omega))
  replace O_x1 : Hid (OwLs w8.heap.size w9.heap.size w10 gx1 nl1 L1) := O_x1.out.keep (keep_below hbb (by omega))
  replace D_w : Hid (Below w.heap.size w w10) := D_w.out.trans (hbb.mono (by omega))
  clear hbb
  rw [← HCC.out]
  have q_x0_0 : ∀ W, Below w10.heap.size w10 W → W.cell? ⟨w7.heap.size, 0, none⟩ = some (.int .i64 nodes0) := fun W h => (B_x0.out.old h).cell (j := 0) rfl
  have q_x0_1 : ∀ W, Below w10.heap.size w10 W → W.cell? ⟨w7.heap.size, 1, none⟩ = some (.int .i64 slots0) := fun W h => (B_x0.out.old h).cell (j := 1) rfl
  have q_x0_2 : ∀ W, Below w10.heap.size w10 W → W.cell? ⟨w7.heap.size, 2, none⟩ = some (.slice (some ⟨gx0, 0, none⟩) nf0 nf0) := fun W h => (B_x0.out.old h).cell (j := 2) rfl
  have q_a0_0 : ∀ W, Below w10.heap.size w10 W → W.cell? ⟨w.heap.size, 0, none⟩ = some (.int .i64 nodes0) := fun W h => (B_a0.out.old h).cell (j := 0) rfl
  have q_a0_1 : ∀ W, Below w10.heap.size w10 W → W.cell? ⟨w.heap.size, 1, none⟩ = some (.int .i64 slots0) := fun W h => (B_a0.out.old h).cell (j := 1) rfl
  have q_a0_2 : ∀ W, Below w10.heap.size w10 W → W.cell? ⟨w.heap.size, 2, none⟩ = some (.slice ao0 nf0 cp0) := fun W h => (B_a0.out.old h).cell (j := 2) rfl
  have QA : ∀ W, Below w10.heap.size w10 W → Hid (Rf W (.slice ao0 nf0 cp0) nf0 F0) := fun W h => H0.out.later (D_w.out.trans (h.mono (by omega)))
  have QX : ∀ W, Below w10.heap.size w10 W → Hid (OwB w6.heap.size w7.heap.size W gx0 nf0 F0) := fun W h => O_x0.out.keep (keep_below h (by omega))
  go_wp2_with fail
  go_region_held (fun W => Below w10.heap.size w10 W) (go_grown)
    (first | (go_at_call 13; refine Calls.mono (toNet_any (QA _ (by go_grown)).out (by omega)) ?_; rintro e w11 ⟨gqa, rfl, hmo, hb1⟩; have hR1 : Below w10.heap.size w10 w11 := box_step (by go_grown) hb1 (Nat.le_refl _)) | (go_at_call 18; refine Calls.mono (eqNet_any (QX _ (by go_grown)).out hmo (by omega)) ?_; rintro e w12 ⟨rfl, hb2⟩; have hR2 : Below w10.heap.size w10 w12 := box_step hR1 hb2 (Nat.le_refl _)))
  have hbb : Below w10.heap.size w10 w12 := hR2
  clear hR1 hR2 hmo hb1 hb2 QA QX q_x0_0 q_x0_1 q_x0_2 q_a0_0 q_a0_1 q_a0_2
  have zw12 : w10.heap.size ≤ w12.heap.size := hbb.size
  replace B_a0 : Hid (Blk w12 w.heap.size #[.int .i64 nodes0, .int .i64 slots0, .slice ao0 nf0 cp0] 24) := B_a0.out.old hbb
  replace B_x0 : Hid (Blk w12 w7.heap.size #[.int .i64 nodes0, .int .i64 slots0, .slice (some ⟨gx0, 0, none⟩) nf0 nf0] 37) := B_x0.out.old hbb
  replace O_x0 : Hid (OwB w6.heap.size w7.heap.size w12 gx0 nf0 F0) := O_x0.out.keep (keep_below hbb (by omega))
  replace O_x1 : Hid (OwLs w8.heap.size w9.heap.size w12 gx1 nl1 L1) := O_x1.out.keep (keep_below hbb (by omega))
  replace D_w : Hid (Below w.heap.size w w12) := D_w.out.trans (hbb.mono (by omega))
  clear hbb
  go_wp2_with fail
  refine (toLits_any (H1.out.later D_w.out) HS1.out).mono ?_
  rintro e w13 ⟨gq, rfl, hmo, hbb⟩
  have zw13 : w12.heap.size ≤ w13.heap.size := hbb.size
  replace B_a0 : Hid (Blk w13 w.heap.size #[.int .i64 nodes0, .int .i64 slots0, .slice ao0 nf0 cp0] 24) := B_a0.out.old hbb
  replace B_x0 : Hid (Blk w13 w7.heap.size #[.int .i64 nodes0, .int .i64 slots0, .slice (some ⟨gx0, 0, none⟩) nf0 nf0] 37) := B_x0.out.old hbb
  replace O_x0 : Hid (OwB w6.heap.size w7.heap.size w13 gx0 nf0 F0) := O_x0.out.keep (keep_below hbb (by omega))
  replace O_x1 : Hid (OwLs w8.heap.size w9.heap.size w13 gx1 nl1 L1) := O_x1.out.keep (keep_below hbb (by omega))
  replace D_w : Hid (Below w.heap.size w w13) := D_w.out.trans (hbb.mono (by omega))
  clear hbb
  have O_q : Hid (OwLs w12.heap.size w13.heap.size w13 gq nl1 L1) := hmo
  clear hmo
  go_wp2_with fail
  refine (eqLits_any O_x1.out.rd O_q.out.rd HS1.out).mono ?_
  rintro e w14 ⟨rfl, hbb⟩
  clear O_q
  have zw14 : w13.heap.size ≤ w14.heap.size := hbb.size
  replace B_a0 : Hid (Blk w14 w.heap.size #[.int .i64 nodes0, .int .i64 slots0, .slice ao0 nf0 cp0] 24) := B_a0.out.old hbb
  replace B_x0 : Hid (Blk w14 w7.heap.size #[.int .i64 nodes0, .int .i64 slots0, .slice (some ⟨gx0, 0, none⟩) nf0 nf0] 37) := B_x0.out.old hbb
  replace O_x0 : Hid (OwB w6.heap.size w7.heap.size w14 gx0 nf0 F0) := O_x0.out.keep (keep_below hbb (by omega))
  replace O_x1 : Hid (OwLs w8.heap.size w9.heap.size w14 gx1 nl1 L1) := O_x1.out.keep (keep_below hbb (by omega))
  replace D_w : Hid (Below w.heap.size w w14) := D_w.out.trans (hbb.mono (by omega))
  clear hbb
  go_wp2
  go_ret
  exact ⟨rfl, D_w.out⟩

set_option maxRecDepth 100000 in
theorem lifted (os : Os) (started : os.Started) (H : Type) (enc : TypeId × Value → H) :
    ReturnsInHanded {} Try.checked os 5 .any (Rows.fnExactLowestSlideSpec.pre6 enc Try.prog Try.f5 Rows.fnExactLowestSlideRow.domain false) (Rows.fnExactLowestSlideSpec.post enc Try.prog Try.f5 false true false false) := by
  refine returnsInHanded_of_change (C := Try.checked) own started (by kernel_rfl) Try.func5
    (ChangeSpec.witness6 (enc := enc) (C := Try.checked) false ⟨#[], #[.agg #[.int .i64 0, .int .i64 0, .slice none 0 0], .slice none 0 0, .int .i64 0], []⟩ 8 (by kernel_rfl) (by kernel_rfl) (by kernel_rfl) (by kernel_rfl)) ?_
  intro W base args ds gs before hval0 hW hcnd _
  have hval : ∀ (j : Nat) t v, Try.f5.params[j]? = some t → args[j]? = some v → Value.okWide Try.prog W .any base t v := hval0
  have hW' := hW
  obtain ⟨p, q, hA0, hV, rfl, hfz, hnd⟩ := hW
  have hA : DataW.TrodAll enc Try.prog W 0 (fun _ => true) true Try.f5.params.toList args.toList ds p := hA0
  rw [Try.params5] at hA hval
  obtain ⟨v0, vs0, d0, ds0, p0, q0, hargs, rfl, rfl, h0, r0⟩ := trodAll_cons hA
  obtain ⟨v1, vs1, d1, ds1, p1, q1, rfl, rfl, rfl, h1, r1⟩ := trodAll_cons r0
  obtain ⟨v2, vs2, d2, ds2, p2, q2, rfl, rfl, rfl, h2, r2⟩ := trodAll_cons r1
  obtain ⟨rfl, rfl, rfl⟩ := trodAll_nil r2
  obtain rfl : args = #[v0, v1, v2] := by cases args; simp_all
  obtain ⟨rfl, rfl⟩ := trodVars_none hV
  have k0 := h0
  have lt0 : ∀ x ∈ p0, x.block < W.heap.size := by obtain ⟨m, hm⟩ := k0; exact DataW.trod_lt m _ _ _ hm
  obtain ⟨nodes0, slots0, ao0, nf0, cp0, F0, rfl, R0, nb0, wl00, wl10, wl20, wl30⟩ := open_net (hval 0 24 v0 rfl rfl) h0
  have k1 := h1
  have lt1 : ∀ x ∈ p1, x.block < W.heap.size := by obtain ⟨m, hm⟩ := k1; exact DataW.trod_lt m _ _ _ hm
  obtain ⟨nl1, L1, R1, nb1, lb1⟩ := open_lits (hval 1 25 v1 rfl rfl) h1
  have k2 := h2
  have lt2 : ∀ x ∈ p2, x.block < W.heap.size := by obtain ⟨m, hm⟩ := k2; exact DataW.trod_lt m _ _ _ hm
  obtain ⟨n2, rfl, _, _, w2⟩ := open_int Try.underlying2 (hval 2 2 v2 rfl rfl) h2
  clear hA0 hval0
  refine (walk R0 nb0 wl00 wl10 wl20 wl30 R1 nb1 lb1 n2 (i64_lo w2) (i64_hi w2)).mono fun e W' ⟨he, bel⟩ => ?_
  subst he
  exact ⟨_, rfl, _, _, _, [], _, [], hW', trodAll_mk1 (shut_bool Try.underlying4 _), (trodAll_cons_mk (Below.trod laidOut (by kernel_rfl) (of_decide_eq_true (by kernel_rfl)) k0 bel lt0) (trodAll_cons_mk (Below.trod laidOut (by kernel_rfl) (of_decide_eq_true (by kernel_rfl)) k1 bel lt1) (trodAll_cons_mk (Below.trod laidOut (by kernel_rfl) (of_decide_eq_true (by kernel_rfl)) k2 bel lt2) trodAll_mk0))), rfl, bel.frame _, fun h => by cases h⟩

theorem over : Rows.fnExactLowestSlideRow.holds Try.pinned (OpenSpec.ofChange Rows.fnExactLowestSlideSpec) :=
  OpenClaim.holds_of_wide 5 Try.f5 rfl rfl rfl rfl rfl rfl rfl ⟨rfl, rfl, rfl, rfl, rfl⟩ rfl rfl rfl rfl rfl (by kernel_rfl) Try.func5 (by kernel_rfl)
    (of_decide_eq_true (by kernel_rfl)) (by unfold Func.isWrapper; first | (rw [if_pos (by decide +kernel)]; kernel_rfl) | (rw [if_neg (by decide +kernel)]; exact ⟨rfl, rfl⟩))
    (fun os started H enc _ => lifted os started H enc)
end Go.Proofs.Ytinfbbbgfkaioaa.LawLowestSlide
namespace Go.Proofs.Ytinfbbbgfkaioaa
theorem lowestSlide_holds : Rows.FnExactLowestSlideSaid := LawLowestSlide.over
#print axioms lowestSlide_holds
end Go.Proofs.Ytinfbbbgfkaioaa
