/- At every argument the program's TreeCounts answers as the specification, in memory of its own that a second call does not reach; nothing that was there is changed. -/
import Derived.Test.YtkkajcdjkfbcgaaTe
import Derived.Test.YtkkajcdjkfbcgaaOp
import Derived.Handy
import Derived.Deep.RegionHeld3
import Derived.Deep.DeepCutAuto
namespace Go.Proofs.Ytkkajcdjkfbcgaa.LawTreeCounts
open Go.ChangeShapes Go.WideShapes Go.ChangeAt Go.RowKit Go.Joins
set_option linter.unusedVariables false

theorem tree_both (p l s : Int) : ∃ (c : Int) (N : Nat) (F : Nat → Int) (d : Int), N ≤ 4096 ∧ (∀ W, FX 28 #[.int .i64 p, .int .i64 l, .int .i64 s] W c N F d) ∧ (∀ W, FX 29 #[.int .i64 p, .int .i64 l, .int .i64 s] W c N F d) := by
  by_cases h : Tgood p l s
  · obtain ⟨k, rfl⟩ := Int.eq_ofNat_of_zero_le h.l0
    have h6 : 2 ^ k ≤ 64 := pow_le6 (by have := h.l1; omega)
    exact ⟨0, 2 ^ k, _, _, by omega, fun W => tree_s_good h W, fun W => tree_i_good h W⟩
  · refine ⟨1, 0, fun _ => 0, 0, by omega, fun W => tree_s_bad p l s h W, fun W => ?_⟩
    by_cases hs : Ck s 0 2
    · exact tree_i_bad1 p l s hs h W
    · exact tree_i_bad0 p l s hs W
set_option maxRecDepth 100000 in
set_option maxHeartbeats 6400000 in
theorem walk (p l s : Int) (w : World) :
    Calls Try.prog 6 #[.int .i64 p, .int .i64 l, .int .i64 s] w fun e w' => e = .returned (.bool true) ∧ Below w.heap.size w w' := by
  obtain ⟨c, N, F, d, hN, SC0, IC0⟩ := tree_both p l s
  have SC : Hid (∀ W, FX 28 #[.int .i64 p, .int .i64 l, .int .i64 s] W c N F d) := SC0
  have IC : Hid (∀ W, FX 29 #[.int .i64 p, .int .i64 l, .int .i64 s] W c N F d) := IC0
  clear SC0 IC0
  have hN2 : N ≤ 1000000000000 := by omega
  obtain ⟨M, hM⟩ : ∃ M : Int, M = 1 + N := ⟨_, rfl⟩
  have hM0 : ¬ M < 0 := by omega
  have hM1 : M ≤ 10000 := by omega
  have MK : Hid (∀ (lo hi : Nat) (W : World) (v : Value) (f : Nat → Int), lo ≤ W.heap.size → OwS 2 lo hi W v N (fun i => .int .i64 (f i)) → Calls Try.prog 31 #[Fx c v d, .int .i64 1] W fun e w' => e = .returned (.int .i64 M) ∧ OwS 2 lo hi w' v N (fun i => .int .i64 (1 + i)) ∧ Within lo hi W w' ∧ W.heap.size ≤ w'.heap.size) := fun lo hi W v f hl h => by rw [hM]; exact markFlux_own h hl 1 (by omega) (by omega)
  have HL : Hid (∀ (lo hi : Nat) (W : World) (v : Value), OwS 2 lo hi W v N (fun i => .int .i64 (1 + i)) → Calls Try.prog 32 #[Fx c v d, .int .i64 1] W fun e w' => e = .returned (.int .i64 M) ∧ Below W.heap.size W w') := fun lo hi W v h => by rw [hM]; exact heldFlux_own h (by omega) (by omega)
  clear hM
  have HO : Hid (Below w.heap.size w w) := Below.refl _ _
  go_enter Try.func6, Try.ntmps6
  go_wp2_with fail
  refine (SC.out _).mono ?_
  rintro e w1 ⟨vs, rfl, os, b⟩
  obtain ⟨sao, scap, rfl⟩ := os.form
  have OS : Hid (OwS 2 w.heap.size w1.heap.size w1 (.slice sao N scap) N (fun i => .int .i64 (F i))) := os
  clear os
  have Z1 : Hid (w.heap.size ≤ w1.heap.size) := b.size
  replace HO : Hid (Below w.heap.size w w1) := HO.out.trans (b.mono HO.out.size)
  clear b
  go_upto_region 2 with fail
  obtain ⟨w2, hwd⟩ : ∃ W, W = w1.alloc (.cells #[.int .i64 c, .slice sao N scap, .int .i64 d] 57) := ⟨_, rfl⟩
  have BS : Hid (Blk w2 w1.heap.size #[.int .i64 c, .slice sao N scap, .int .i64 d] 57) := by show Blk _ _ _ _; rw [hwd]; exact Blk.new rfl
  have b : Below w1.heap.size w1 w2 := by rw [hwd]; exact (Below.refl _ _).alloc (Nat.le_refl _) _
  have Y2 : Hid (w1.heap.size + 1 ≤ w2.heap.size) := by show _ ≤ _; rw [hwd]; simp
  rw [← hwd]
  clear hwd
  replace OS : Hid (OwS 2 w.heap.size w1.heap.size w2 (.slice sao N scap) N (fun i => .int .i64 (F i))) := OS.out.later b
  have Z2 : Hid (w1.heap.size ≤ w2.heap.size) := b.size
  replace HO : Hid (Below w.heap.size w w2) := HO.out.trans (b.mono HO.out.size)
  clear b
  go_wp2_with fail
  refine (IC.out _).mono ?_
  rintro e w3 ⟨vg, rfl, og, b⟩
  obtain ⟨gao, gcap, rfl⟩ := og.form
  have OG : Hid (OwS 2 w2.heap.size w3.heap.size w3 (.slice gao N gcap) N (fun i => .int .i64 (F i))) := og
  clear og
  replace OS : Hid (OwS 2 w.heap.size w1.heap.size w3 (.slice sao N scap) N (fun i => .int .i64 (F i))) := OS.out.later b
  replace BS : Hid (Blk w3 w1.heap.size #[.int .i64 c, .slice sao N scap, .int .i64 d] 57) := BS.out.later b
  have Z3 : Hid (w2.heap.size ≤ w3.heap.size) := b.size
  replace HO : Hid (Below w.heap.size w w3) := HO.out.trans (b.mono HO.out.size)
  clear b
  go_upto_region 3 with fail
  obtain ⟨w4, hwd⟩ : ∃ W, W = w3.alloc (.cells #[.int .i64 c, .slice gao N gcap, .int .i64 d] 57) := ⟨_, rfl⟩
  have BG : Hid (Blk w4 w3.heap.size #[.int .i64 c, .slice gao N gcap, .int .i64 d] 57) := by show Blk _ _ _ _; rw [hwd]; exact Blk.new rfl
  have b : Below w3.heap.size w3 w4 := by rw [hwd]; exact (Below.refl _ _).alloc (Nat.le_refl _) _
  have Y4 : Hid (w3.heap.size + 1 ≤ w4.heap.size) := by show _ ≤ _; rw [hwd]; simp
  rw [← hwd]
  clear hwd
  replace OS : Hid (OwS 2 w.heap.size w1.heap.size w4 (.slice sao N scap) N (fun i => .int .i64 (F i))) := OS.out.later b
  replace BS : Hid (Blk w4 w1.heap.size #[.int .i64 c, .slice sao N scap, .int .i64 d] 57) := BS.out.later b
  replace OG : Hid (OwS 2 w2.heap.size w3.heap.size w4 (.slice gao N gcap) N (fun i => .int .i64 (F i))) := OG.out.later b
  have Z4 : Hid (w3.heap.size ≤ w4.heap.size) := b.size
  replace HO : Hid (Below w.heap.size w w4) := HO.out.trans (b.mono HO.out.size)
  clear b
  have cs0 := BS.out.cell (j := 0) (v := .int .i64 c) rfl
  have cs1 := BS.out.cell (j := 1) (v := .slice sao N scap) rfl
  have cs2 := BS.out.cell (j := 2) (v := .int .i64 d) rfl
  have cg0 := BG.out.cell (j := 0) (v := .int .i64 c) rfl
  have cg1 := BG.out.cell (j := 1) (v := .slice gao N gcap) rfl
  have cg2 := BG.out.cell (j := 2) (v := .int .i64 d) rfl
  go_wp2_with fail
  refine (eqFlux_same OG.out.rdI OS.out.rdI hN2).mono ?_
  rintro e w5 ⟨rfl, b⟩
  replace OS : Hid (OwS 2 w.heap.size w1.heap.size w5 (.slice sao N scap) N (fun i => .int .i64 (F i))) := OS.out.later b
  replace BS : Hid (Blk w5 w1.heap.size #[.int .i64 c, .slice sao N scap, .int .i64 d] 57) := BS.out.later b
  replace OG : Hid (OwS 2 w2.heap.size w3.heap.size w5 (.slice gao N gcap) N (fun i => .int .i64 (F i))) := OG.out.later b
  replace BG : Hid (Blk w5 w3.heap.size #[.int .i64 c, .slice gao N gcap, .int .i64 d] 57) := BG.out.later b
  have Z5 : Hid (w4.heap.size ≤ w5.heap.size) := b.size
  replace HO : Hid (Below w.heap.size w w5) := HO.out.trans (b.mono HO.out.size)
  clear b
  clear cs0 cs1 cs2 cg0 cg1 cg2
  have cg0 := BG.out.cell (j := 0) (v := .int .i64 c) rfl
  have cg1 := BG.out.cell (j := 1) (v := .slice gao N gcap) rfl
  have cg2 := BG.out.cell (j := 2) (v := .int .i64 d) rfl
  go_wp2_with fail
  refine (MK.out _ _ _ _ _ (by have := Z1.out; have := Y2.out; have := Z2.out; have := Z3.out; have := Y4.out; have := Z4.out; have := Z5.out; omega) OG.out).mono ?_
  rintro e w6 ⟨rfl, sm, wi, zm⟩
  have Z6 : Hid (w5.heap.size ≤ w6.heap.size) := zm
  replace OS : Hid (OwS 2 w.heap.size w1.heap.size w6 (.slice sao N scap) N (fun i => .int .i64 (F i))) := OS.out.under wi (by have := Z1.out; have := Y2.out; have := Z2.out; have := Z3.out; have := Y4.out; have := Z4.out; have := Z5.out; have := Z6.out; omega)
  replace BS : Hid (Blk w6 w1.heap.size #[.int .i64 c, .slice sao N scap, .int .i64 d] 57) := BS.out.under wi (by have := Z1.out; have := Y2.out; have := Z2.out; have := Z3.out; have := Y4.out; have := Z4.out; have := Z5.out; have := Z6.out; omega)
  replace BG : Hid (Blk w6 w3.heap.size #[.int .i64 c, .slice gao N gcap, .int .i64 d] 57) := BG.out.under wi (by have := Z1.out; have := Y2.out; have := Z2.out; have := Z3.out; have := Y4.out; have := Z4.out; have := Z5.out; have := Z6.out; omega)
  replace OG : Hid (OwS 2 w2.heap.size w3.heap.size w6 (.slice gao N gcap) N (fun i => .int .i64 (1 + i))) := sm
  replace HO : Hid (Below w.heap.size w w6) := HO.out.trans (wi.below.mono (by have := Z1.out; have := Y2.out; have := Z2.out; have := Z3.out; have := Y4.out; have := Z4.out; have := Z5.out; have := Z6.out; omega))
  clear wi zm sm
  clear cg0 cg1 cg2
  have cg0 := BG.out.cell (j := 0) (v := .int .i64 c) rfl
  have cg1 := BG.out.cell (j := 1) (v := .slice gao N gcap) rfl
  have cg2 := BG.out.cell (j := 2) (v := .int .i64 d) rfl
  go_wp2_with fail
  refine (HL.out _ _ _ _ OG.out).mono ?_
  rintro e w7 ⟨rfl, b⟩
  replace OS : Hid (OwS 2 w.heap.size w1.heap.size w7 (.slice sao N scap) N (fun i => .int .i64 (F i))) := OS.out.later b
  replace BS : Hid (Blk w7 w1.heap.size #[.int .i64 c, .slice sao N scap, .int .i64 d] 57) := BS.out.later b
  replace OG : Hid (OwS 2 w2.heap.size w3.heap.size w7 (.slice gao N gcap) N (fun i => .int .i64 (1 + i))) := OG.out.later b
  replace BG : Hid (Blk w7 w3.heap.size #[.int .i64 c, .slice gao N gcap, .int .i64 d] 57) := BG.out.later b
  have Z7 : Hid (w6.heap.size ≤ w7.heap.size) := b.size
  replace HO : Hid (Below w.heap.size w w7) := HO.out.trans (b.mono HO.out.size)
  clear b
  clear cg0 cg1 cg2
  go_wp2_with fail
  refine (IC.out _).mono ?_
  rintro e w8 ⟨vh, rfl, oh, b⟩
  obtain ⟨hao, hcap, rfl⟩ := oh.form
  have OH : Hid (OwS 2 w7.heap.size w8.heap.size w8 (.slice hao N hcap) N (fun i => .int .i64 (F i))) := oh
  clear oh
  replace OS : Hid (OwS 2 w.heap.size w1.heap.size w8 (.slice sao N scap) N (fun i => .int .i64 (F i))) := OS.out.later b
  replace BS : Hid (Blk w8 w1.heap.size #[.int .i64 c, .slice sao N scap, .int .i64 d] 57) := BS.out.later b
  replace OG : Hid (OwS 2 w2.heap.size w3.heap.size w8 (.slice gao N gcap) N (fun i => .int .i64 (1 + i))) := OG.out.later b
  replace BG : Hid (Blk w8 w3.heap.size #[.int .i64 c, .slice gao N gcap, .int .i64 d] 57) := BG.out.later b
  have Z8 : Hid (w7.heap.size ≤ w8.heap.size) := b.size
  replace HO : Hid (Below w.heap.size w w8) := HO.out.trans (b.mono HO.out.size)
  clear b
  go_upto_region 14 with fail
  obtain ⟨w9, hwd⟩ : ∃ W, W = w8.alloc (.cells #[.int .i64 c, .slice hao N hcap, .int .i64 d] 57) := ⟨_, rfl⟩
  have BH : Hid (Blk w9 w8.heap.size #[.int .i64 c, .slice hao N hcap, .int .i64 d] 57) := by show Blk _ _ _ _; rw [hwd]; exact Blk.new rfl
  have b : Below w8.heap.size w8 w9 := by rw [hwd]; exact (Below.refl _ _).alloc (Nat.le_refl _) _
  have Y9 : Hid (w8.heap.size + 1 ≤ w9.heap.size) := by show _ ≤ _; rw [hwd]; simp
  rw [← hwd]
  clear hwd
  replace OS : Hid (OwS 2 w.heap.size w1.heap.size w9 (.slice sao N scap) N (fun i => .int .i64 (F i))) := OS.out.later b
  replace BS : Hid (Blk w9 w1.heap.size #[.int .i64 c, .slice sao N scap, .int .i64 d] 57) := BS.out.later b
  replace OG : Hid (OwS 2 w2.heap.size w3.heap.size w9 (.slice gao N gcap) N (fun i => .int .i64 (1 + i))) := OG.out.later b
  replace BG : Hid (Blk w9 w3.heap.size #[.int .i64 c, .slice gao N gcap, .int .i64 d] 57) := BG.out.later b
  replace OH : Hid (OwS 2 w7.heap.size w8.heap.size w9 (.slice hao N hcap) N (fun i => .int .i64 (F i))) := OH.out.later b
  have Z9 : Hid (w8.heap.size ≤ w9.heap.size) := b.size
  replace HO : Hid (Below w.heap.size w w9) := HO.out.trans (b.mono HO.out.size)
  clear b
  have cs0 := BS.out.cell (j := 0) (v := .int .i64 c) rfl
  have cs1 := BS.out.cell (j := 1) (v := .slice sao N scap) rfl
  have cs2 := BS.out.cell (j := 2) (v := .int .i64 d) rfl
  have ch0 := BH.out.cell (j := 0) (v := .int .i64 c) rfl
  have ch1 := BH.out.cell (j := 1) (v := .slice hao N hcap) rfl
  have ch2 := BH.out.cell (j := 2) (v := .int .i64 d) rfl
  go_wp2_with fail
  refine (eqFlux_same OH.out.rdI OS.out.rdI hN2).mono ?_
  rintro e w10 ⟨rfl, b⟩
  replace OS : Hid (OwS 2 w.heap.size w1.heap.size w10 (.slice sao N scap) N (fun i => .int .i64 (F i))) := OS.out.later b
  replace BS : Hid (Blk w10 w1.heap.size #[.int .i64 c, .slice sao N scap, .int .i64 d] 57) := BS.out.later b
  replace OG : Hid (OwS 2 w2.heap.size w3.heap.size w10 (.slice gao N gcap) N (fun i => .int .i64 (1 + i))) := OG.out.later b
  replace BG : Hid (Blk w10 w3.heap.size #[.int .i64 c, .slice gao N gcap, .int .i64 d] 57) := BG.out.later b
  replace OH : Hid (OwS 2 w7.heap.size w8.heap.size w10 (.slice hao N hcap) N (fun i => .int .i64 (F i))) := OH.out.later b
  replace BH : Hid (Blk w10 w8.heap.size #[.int .i64 c, .slice hao N hcap, .int .i64 d] 57) := BH.out.later b
  have Z10 : Hid (w9.heap.size ≤ w10.heap.size) := b.size
  replace HO : Hid (Below w.heap.size w w10) := HO.out.trans (b.mono HO.out.size)
  clear b
  clear cs0 cs1 cs2 ch0 ch1 ch2
  have cg0 := BG.out.cell (j := 0) (v := .int .i64 c) rfl
  have cg1 := BG.out.cell (j := 1) (v := .slice gao N gcap) rfl
  have cg2 := BG.out.cell (j := 2) (v := .int .i64 d) rfl
  go_wp2_with fail
  refine (HL.out _ _ _ _ OG.out).mono ?_
  rintro e w11 ⟨rfl, b⟩
  replace OS : Hid (OwS 2 w.heap.size w1.heap.size w11 (.slice sao N scap) N (fun i => .int .i64 (F i))) := OS.out.later b
  replace BS : Hid (Blk w11 w1.heap.size #[.int .i64 c, .slice sao N scap, .int .i64 d] 57) := BS.out.later b
  replace OG : Hid (OwS 2 w2.heap.size w3.heap.size w11 (.slice gao N gcap) N (fun i => .int .i64 (1 + i))) := OG.out.later b
  replace BG : Hid (Blk w11 w3.heap.size #[.int .i64 c, .slice gao N gcap, .int .i64 d] 57) := BG.out.later b
  replace OH : Hid (OwS 2 w7.heap.size w8.heap.size w11 (.slice hao N hcap) N (fun i => .int .i64 (F i))) := OH.out.later b
  replace BH : Hid (Blk w11 w8.heap.size #[.int .i64 c, .slice hao N hcap, .int .i64 d] 57) := BH.out.later b
  have Z11 : Hid (w10.heap.size ≤ w11.heap.size) := b.size
  replace HO : Hid (Below w.heap.size w w11) := HO.out.trans (b.mono HO.out.size)
  clear b
  clear cg0 cg1 cg2
  go_wp2
  go_ret
  exact ⟨rfl, HO.out⟩

set_option maxRecDepth 100000 in
theorem lifted (os : Os) (started : os.Started) (H : Type) (enc : TypeId × Value → H) :
    ReturnsInHanded {} Try.checked os 6 .any (Rows.fnExactTreeCountsSpec.pre6 enc Try.prog Try.f6 Rows.fnExactTreeCountsRow.domain false) (Rows.fnExactTreeCountsSpec.post enc Try.prog Try.f6 false true false false) := by
  refine returnsInHanded_of_change (C := Try.checked) own started (by kernel_rfl) Try.func6
    (ChangeSpec.witness6 (enc := enc) (C := Try.checked) false ⟨#[], #[.int .i64 0, .int .i64 0, .int .i64 0], []⟩ 8 (by kernel_rfl) (by kernel_rfl) (by kernel_rfl) (by kernel_rfl)) ?_
  intro W base args ds gs before hval0 hW hcnd _
  have hval : ∀ (j : Nat) t v, Try.f6.params[j]? = some t → args[j]? = some v → Value.okWide Try.prog W .any base t v := hval0
  have hW' := hW
  obtain ⟨p, q, hA0, hV, rfl, hfz, hnd⟩ := hW
  have hA : DataW.TrodAll enc Try.prog W 0 (fun _ => true) true Try.f6.params.toList args.toList ds p := hA0
  rw [Try.params6] at hA hval
  obtain ⟨v0, vs0, d0, ds0, p0, q0, hargs, rfl, rfl, h0, r0⟩ := trodAll_cons hA
  obtain ⟨v1, vs1, d1, ds1, p1, q1, rfl, rfl, rfl, h1, r1⟩ := trodAll_cons r0
  obtain ⟨v2, vs2, d2, ds2, p2, q2, rfl, rfl, rfl, h2, r2⟩ := trodAll_cons r1
  obtain ⟨rfl, rfl, rfl⟩ := trodAll_nil r2
  obtain rfl : args = #[v0, v1, v2] := by cases args; simp_all
  obtain ⟨rfl, rfl⟩ := trodVars_none hV
  have k0 := h0
  have lt0 : ∀ x ∈ p0, x.block < W.heap.size := by obtain ⟨m, hm⟩ := k0; exact DataW.trod_lt m _ _ _ hm
  obtain ⟨n0, rfl, _, _, w0⟩ := open_int Try.underlying2 (hval 0 2 v0 rfl rfl) h0
  have k1 := h1
  have lt1 : ∀ x ∈ p1, x.block < W.heap.size := by obtain ⟨m, hm⟩ := k1; exact DataW.trod_lt m _ _ _ hm
  obtain ⟨n1, rfl, _, _, w1⟩ := open_int Try.underlying2 (hval 1 2 v1 rfl rfl) h1
  have k2 := h2
  have lt2 : ∀ x ∈ p2, x.block < W.heap.size := by obtain ⟨m, hm⟩ := k2; exact DataW.trod_lt m _ _ _ hm
  obtain ⟨n2, rfl, _, _, w2⟩ := open_int Try.underlying2 (hval 2 2 v2 rfl rfl) h2
  clear hA0 hval0
  refine (walk n0 n1 n2 W).mono fun e W' ⟨he, bel⟩ => ?_
  subst he
  exact ⟨_, rfl, _, _, _, [], _, [], hW', trodAll_mk1 (shut_bool Try.underlying4 _), (trodAll_cons_mk (Below.trod laidOut (by kernel_rfl) (of_decide_eq_true (by kernel_rfl)) k0 bel lt0) (trodAll_cons_mk (Below.trod laidOut (by kernel_rfl) (of_decide_eq_true (by kernel_rfl)) k1 bel lt1) (trodAll_cons_mk (Below.trod laidOut (by kernel_rfl) (of_decide_eq_true (by kernel_rfl)) k2 bel lt2) trodAll_mk0))), rfl, bel.frame _, fun h => by cases h⟩

theorem over : Rows.fnExactTreeCountsRow.holds Try.pinned (OpenSpec.ofChange Rows.fnExactTreeCountsSpec) :=
  OpenClaim.holds_of_wide 6 Try.f6 rfl rfl rfl rfl rfl rfl rfl ⟨rfl, rfl, rfl, rfl, rfl⟩ rfl rfl rfl rfl rfl (by kernel_rfl) Try.func6 (by kernel_rfl)
    (of_decide_eq_true (by kernel_rfl)) (by unfold Func.isWrapper; first | (rw [if_pos (by decide +kernel)]; kernel_rfl) | (rw [if_neg (by decide +kernel)]; exact ⟨rfl, rfl⟩))
    (fun os started H enc _ => lifted os started H enc)
end Go.Proofs.Ytkkajcdjkfbcgaa.LawTreeCounts
namespace Go.Proofs.Ytkkajcdjkfbcgaa
theorem treeCounts_holds : Rows.FnExactTreeCountsSaid := LawTreeCounts.over
#print axioms treeCounts_holds
end Go.Proofs.Ytkkajcdjkfbcgaa
