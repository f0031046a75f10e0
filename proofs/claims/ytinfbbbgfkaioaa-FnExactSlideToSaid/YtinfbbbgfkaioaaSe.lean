/- SlideTo of the specification. -/
import Derived.Test.YtinfbbbgfkaioaaSd
namespace Go.Proofs.Ytinfbbbgfkaioaa
open Go.RowKit
set_option linter.unusedVariables false
set_option linter.unusedSimpArgs false
theorem l16Min_any (a b : Int) (w : World) : Calls Try.prog 68 #[.int .i64 a, .int .i64 b] w fun e w' => e = .returned (.int .i64 (if a < b then a else b)) ∧ w = w' := by
  by_cases h : a < b
  · rw [if_pos h]
    go_enter Try.func68, Try.ntmps68
    go_wp2
    go_ret
    exact ⟨rfl, rfl⟩
  · rw [if_neg h]
    go_enter Try.func68, Try.ntmps68
    go_wp2
    go_ret
    exact ⟨rfl, rfl⟩
set_option maxRecDepth 20000 in
set_option maxHeartbeats 3200000 in
theorem sSld_any {w : World} {ao lo : Option Addr} {nf cp n cl : Nat} {nodes slots : Int} {F : Nat → Fb} {L : Nat → Li} {id t c : Int} (hc : c = slc nodes slots nf F n L id t) (h : Rf w (.slice ao nf cp) nf F) (hl : RdL w (.slice lo n cl) n L) (hf : nf ≤ 1048576) (hw : LFew n L) :
    Calls Try.prog 26 #[.agg #[.int .i64 nodes, .int .i64 slots, .slice ao nf cp], .slice lo n cl, .agg #[.int .i64 id, .int .i64 t]] w fun e w' => ∃ v, e = .returned (.agg #[.int .i64 c, v]) ∧ OutB w.heap.size w'.heap.size w' c v n (slid L (fnd L id n).toNat t) ∧ Below w.heap.size w w' := by
  obtain ⟨X, hX⟩ : ∃ X, X = ((w.alloc (.cells #[.int .i64 nodes, .int .i64 slots, .slice ao nf cp] 37)).alloc (.cells #[.int .i64 id, .int .i64 t] 55)).alloc (.cells #[.int .i64 0, .slice none 0 0] 53) := ⟨_, rfl⟩
  have BX : Hid (Blk X w.heap.size #[.int .i64 nodes, .int .i64 slots, .slice ao nf cp] 37 ∧ Blk X (w.heap.size + 1) #[.int .i64 id, .int .i64 t] 55 ∧ Blk X (w.heap.size + 2) #[.int .i64 0, .slice none 0 0] 53 ∧ Below w.heap.size w X) := by
    rw [hX]
    exact ⟨((Blk.new rfl).alloc _).alloc _, (Blk.new (by simp)).alloc _, Blk.new (by simp), (((Below.refl _ _).alloc (Nat.le_refl _) _).alloc (by simp) _).alloc (by simp; omega) _⟩
  have hXz : w.heap.size + 2 < X.heap.size := BX.out.2.2.1.lt
  have hXz1 : w.heap.size ≤ X.heap.size := by omega
  have H : ∀ W, Below X.heap.size X W → Hid (Rf W (.slice ao nf cp) nf F ∧ RdL W (.slice lo n cl) n L) := fun W hb => ⟨h.later (BX.out.2.2.2.trans (hb.mono hXz1)), hl.later (BX.out.2.2.2.trans (hb.mono hXz1))⟩
  have hcall := sLf_any (nodes := nodes) (slots := slots) (H _ (Below.refl _ _)).out.1 (H _ (Below.refl _ _)).out.2 hf hw
  have HW : Hid (LFew n L) := hw
  clear h hl hw
  have HC : Hid (c = slc nodes slots nf F n L id t) := hc
  clear hc
  have x0 := BX.out.1.cell (j := 0) (v := .int .i64 nodes) rfl
  have x1 := BX.out.1.cell (j := 1) (v := .int .i64 slots) rfl
  have x2 := BX.out.1.cell (j := 2) (v := .slice ao nf cp) rfl
  go_enter Try.func26, Try.ntmps26
  go_wp2_with fail
  rw [← hX]
  clear hX
  go_wp2_with fail
  refine hcall.mono ?_
  rintro e w1 ⟨rfl, hb1⟩
  clear x0 x1 x2 hcall
  have HB1 : Hid (Below X.heap.size X w1) := hb1
  clear hb1
  obtain ⟨d, hdd⟩ : ∃ d, d = Nt.lfault nodes slots nf F n L := ⟨_, rfl⟩
  have HD : Hid (d = Nt.lfault nodes slots nf F n L) := hdd
  rw [← hdd]
  clear hdd
  have hR := BX.out.2.2.1.old HB1.out
  have r0 := hR.cell (j := 0) (v := .int .i64 0) rfl
  have r1 := hR.cell (j := 1) (v := .slice none 0 0) rfl
  have rf := hR.frozen
  have rl := hR.lt
  have s0 := (BX.out.2.1.old HB1.out).cell (j := 0) (v := .int .i64 id) rfl
  clear hR
  by_cases hz : d = 0
  · have hb : (d != 0) = false := by simpa using hz
    have hfl : Nt.lfault nodes slots nf F n L = 0 := by rw [← HD.out]; exact hz
    clear hz
    go_wp2_with fail
    refine (sFind_any id (H _ HB1.out).out.2 HW.out.cn).mono ?_
    rintro e w2 ⟨rfl, hw2⟩
    have hb2 : Below w1.heap.size w1 w2 := by rw [hw2]; exact Below.refl _ _
    clear hw2
    have HB2 : Hid (Below w1.heap.size w1 w2 ∧ Below X.heap.size X w2) := ⟨hb2, HB1.out.trans (hb2.mono HB1.out.size)⟩
    clear hb2 r0 r1 rf rl s0
    have hR := BX.out.2.2.1.old HB2.out.2
    have r0 := hR.cell (j := 0) (v := .int .i64 0) rfl
    have r1 := hR.cell (j := 1) (v := .slice none 0 0) rfl
    have rf := hR.frozen
    have rl := hR.lt
    clear hR
    obtain ⟨f, hf0⟩ : ∃ f, f = fnd L id n := ⟨_, rfl⟩
    have HF : Hid (f = fnd L id n) := hf0
    rw [← hf0]
    clear hf0
    by_cases hm : f = -1
    · subst hm
      have HZ : Hid (c = 4) := by show _ = _; rw [HC.out]; exact slc_none hfl HF.out.symm
      clear hfl
      go_wp2
      refine bodyPost_ret (v := .agg #[.int .i64 4, .slice none 0 0]) (by simp [results, Try.results26, go_sem, r0, r1]) rfl ⟨_, by rw [HZ.out], Or.inl ⟨by rw [HZ.out]; decide, rfl⟩, ?_⟩
      exact BX.out.2.2.2.trans (Below.setCell (Below.setCell (HB2.out.2.mono hXz1) (by simp; omega) _) (by simp; omega) _)
    · obtain ⟨k, hkn, hk, hid⟩ := fnd_is (by rw [← HF.out]; exact hm)
      obtain ⟨G, hn40, hO⟩ := lf_good hfl
      have hok := hO.ok k hkn
      have hfk : f = (k : Int) := by rw [HF.out]; exact hk
      have HKK : Hid (fnd L id n = (k : Int) ∧ (fnd L id n).toNat = k) := ⟨hk, by rw [hk]; rfl⟩
      subst hfk
      obtain ⟨b, off, qo, qc, rfl, hcell, hrow⟩ := (H w2 HB2.out.2).out.2.at hkn
      have d0 := hcell 0 (by omega)
      have d1 := hcell 1 (by omega)
      have d2 := hcell 2 (by omega)
      have d3 := hcell 3 (by omega)
      have d4 := hcell 4 (by omega)
      have d5 := hcell 5 (by omega)
      simp only [lcell, Nat.add_zero] at d0 d1 d2 d3 d4 d5
      have HOk : Hid (Nt.AllOk nodes slots nf F n L ∧ Nt.Good nodes slots nf F ∧ Nt.LOk nodes slots nf F (L k) ∧ Nt.lfault nodes slots nf F n L = 0) := ⟨hO, G, hok, hfl⟩
      have s64 := G.s64
      have ot := hok.top
      have of0 := hok.f0
      have ow := hok.w1
      have hkI : (k : Int) < n := by omega
      have hk0 : ¬ (k : Int) < 0 := by omega
      have hnI : (n : Int) ≤ 40 := by omega
      obtain ⟨x, hx⟩ : ∃ x, x = L k := ⟨_, rfl⟩
      have HX : Hid (x = L k) := hx
      rw [← hx] at d0 d1 d2 d3 d4 d5 ot of0 ow hrow
      obtain ⟨Y, hY⟩ : ∃ Y, Y = w2.alloc (.cells #[.int .i64 x.id, .int .i64 x.fr, .int .i64 x.tt, .slice qo x.np qc, .int .i64 x.fi, .int .i64 x.wd] 80) := ⟨_, rfl⟩
      have BY : Hid (Blk Y w2.heap.size #[.int .i64 x.id, .int .i64 x.fr, .int .i64 x.tt, .slice qo x.np qc, .int .i64 x.fi, .int .i64 x.wd] 80 ∧ Below w2.heap.size w2 Y ∧ RdRow Y (.slice qo x.np qc) x.np x.p) := by
        have hb : Below w2.heap.size w2 Y := by rw [hY]; exact (Below.refl _ _).alloc (Nat.le_refl _) _
        exact ⟨by rw [hY]; exact Blk.new rfl, hb, hrow.later hb⟩
      have HXY : Hid (Below X.heap.size X Y) := HB2.out.2.trans (BY.out.2.1.mono HB2.out.2.size)
      clear hx hcell hok hO G hk hid hfl hm r0 r1 rf rl hrow HB1
      go_upto_region 8 with fail
      rw [← hY]
      clear hY d0 d1 d2 d3 d4 d5
      have hR := BX.out.2.2.1.old HXY.out
      have r0 := hR.cell (j := 0) (v := .int .i64 0) rfl
      have r1 := hR.cell (j := 1) (v := .slice none 0 0) rfl
      have rf := hR.frozen
      have rl := hR.lt
      clear hR
      have s0 := (BX.out.2.1.old HXY.out).cell (j := 0) (v := .int .i64 id) rfl
      have s1 := (BX.out.2.1.old HXY.out).cell (j := 1) (v := .int .i64 t) rfl
      have n1 := (BX.out.1.old HXY.out).cell (j := 1) (v := .int .i64 slots) rfl
      have y0 := BY.out.1.cell (j := 0) (v := .int .i64 x.id) rfl
      have y3 := BY.out.1.cell (j := 3) (v := .slice qo x.np qc) rfl
      have y4 := BY.out.1.cell (j := 4) (v := .int .i64 x.fi) rfl
      have y5 := BY.out.1.cell (j := 5) (v := .int .i64 x.wd) rfl
      by_cases ht0 : t < 0
      · have HZ : Hid (c = 3) := by show _ = _; rw [HC.out]; exact slc_far HOk.out.2.2.2 HKK.out.1 (Or.inl ht0)
        go_wp2
        refine bodyPost_ret (v := .agg #[.int .i64 3, .slice none 0 0]) (by simp [results, Try.results26, go_sem, r0, r1]) rfl ⟨_, by rw [HZ.out], Or.inl ⟨by rw [HZ.out]; decide, rfl⟩, ?_⟩
        exact BX.out.2.2.2.trans (Below.setCell (Below.setCell (HXY.out.mono hXz1) (by simp; omega) _) (by simp; omega) _)
      · by_cases ht1 : slots - x.wd < t
        · have HZ : Hid (c = 3) := by show _ = _; rw [HC.out]; exact slc_far HOk.out.2.2.2 HKK.out.1 (Or.inr (by rw [← HX.out]; exact ht1))
          go_wp2
          refine bodyPost_ret (v := .agg #[.int .i64 3, .slice none 0 0]) (by simp [results, Try.results26, go_sem, r0, r1]) rfl ⟨_, by rw [HZ.out], Or.inl ⟨by rw [HZ.out]; decide, rfl⟩, ?_⟩
          exact BX.out.2.2.2.trans (Below.setCell (Below.setCell (HXY.out.mono hXz1) (by simp; omega) _) (by simp; omega) _)
        · obtain ⟨A, hA⟩ : ∃ A : Nat, (if t < x.fi then t else x.fi) = (A : Int) := ⟨(if t < x.fi then t else x.fi).toNat, by split <;> omega⟩
          obtain ⟨B, hB⟩ : ∃ B : Nat, (if t < x.fi then x.fi else t) = (B : Int) := ⟨(if t < x.fi then x.fi else t).toNat, by split <;> omega⟩
          obtain ⟨E, hE⟩ : ∃ E : Nat, (B : Int) + x.wd = (E : Int) := ⟨((B : Int) + x.wd).toNat, by omega⟩
          have hAB : A ≤ B := by split at hA <;> omega
          have hE64 : (E : Int) ≤ slots := by split at hB <;> omega
          have hAs : t + x.fi - (A : Int) = (B : Int) := by split at hA <;> split at hB <;> omega
          have hts : 0 ≤ t + x.fi ∧ t + x.fi ≤ 128 := by omega
          have HCs : Hid (c = if Nt.blocked L n x (A : Int) (E : Int) = true then 7 else 0) := by
            show _ = _
            rw [HC.out, slc_is (a := (A : Int)) (b := (B : Int)) HOk.out.2.2.2 HKK.out.1 (by rw [← HX.out]; omega) (by rw [← hA, ← HX.out]) (by rw [← hB, ← HX.out]), ← HX.out, hE]
          have hmin := l16Min_any t x.fi
          rw [hA] at hmin
          clear hA hB
          go_wp2_with fail
          refine (hmin _).mono ?_
          rintro e w3 ⟨rfl, hw3⟩
          obtain rfl := hw3
          clear hmin
          have HAE : Hid (A < E) := by show A < E; omega
          have z1 := BY.out.1.cell (j := 1) (v := .int .i64 x.fr) rfl
          have z2 := BY.out.1.cell (j := 2) (v := .int .i64 x.tt) rfl
          have hcl := sBlk_any x (A : Int) (E : Int) (H Y HXY.out).out.2 BY.out.2.2 hn40 (by have := HOk.out.2.2.1.few; rw [HX.out]; omega) (fun i hi => by
            have o := HOk.out.1.ok i hi
            have a1 := o.f0
            have a2 := o.w1
            have a3 := o.top
            have a4 := o.few
            exact ⟨a1, a2, by omega, by omega⟩)
          obtain ⟨Bl, hBl⟩ : ∃ Bl, Bl = Nt.blocked L n x (A : Int) (E : Int) := ⟨_, rfl⟩
          rw [← hBl] at hcl
          have HBl : Hid (Bl = Nt.blocked L n x (A : Int) (E : Int)) := hBl
          clear hBl
          go_wp2_with fail
          refine hcl.mono ?_
          rintro e Z ⟨rfl, hbZ⟩
          have HXZ : Hid (Below X.heap.size X Z) := HXY.out.trans (hbZ.mono HXY.out.size)
          clear hcl hbZ y0 y3 y4 y5 z1 z2 r0 r1 rf rl s0 s1 n1
          have hR := BX.out.2.2.1.old HXZ.out
          have r0 := hR.cell (j := 0) (v := .int .i64 0) rfl
          have r1 := hR.cell (j := 1) (v := .slice none 0 0) rfl
          have rf := hR.frozen
          have rl := hR.lt
          clear hR
          cases Bl with
          | true =>
            have HZ : Hid (c = 7) := by show _ = _; rw [HCs.out, ← HBl.out, if_pos rfl]
            go_wp2
            refine bodyPost_ret (v := .agg #[.int .i64 7, .slice none 0 0]) (by simp [results, Try.results26, go_sem, r0, r1]) rfl ⟨_, by rw [HZ.out], Or.inl ⟨by rw [HZ.out]; decide, rfl⟩, ?_⟩
            exact BX.out.2.2.2.trans (Below.setCell (Below.setCell (HXZ.out.mono hXz1) (by simp; omega) _) (by simp; omega) _)
          | false =>
            have HZ : Hid (c = 0) := by show _ = _; rw [HCs.out, ← HBl.out, if_neg (by decide)]
            clear r0 r1 rf rl
            go_wp2_with fail
            refine (sCpy_any (H Z HXZ.out).out.2 HW.out (fun i hi => (HOk.out.1.ok i hi).one)).mono ?_
            rintro e w4 ⟨g4, c4, PB, PC, rfl, hcp4, hb4⟩
            have H4 : Hid (Cpy Z.heap.size w4 g4 n PB PC L ∧ Below X.heap.size X w4) := ⟨hcp4, HXZ.out.trans (hb4.mono HXZ.out.size)⟩
            have hzz := HXZ.out.size
            have hgz := hcp4.1
            have hg4 := hcp4.2.1.lt
            clear hcp4 hb4
            have s1 := (BX.out.2.1.old H4.out.2).cell (j := 1) (v := .int .i64 t) rfl
            have c4' : w4.cell? ⟨g4, k * 6 + 4, none⟩ = some (.int .i64 (L k).fi) := by have := H4.out.1.cell hkn (show 4 < 6 by omega); simpa [lcell] using this
            have cf : ∀ j, w4.frozen? ⟨g4, j, none⟩ = false := fun j => H4.out.1.2.1.frozen j
            have hR := BX.out.2.2.1.old H4.out.2
            have r0 := hR.cell (j := 0) (v := .int .i64 0) rfl
            have r1 := hR.cell (j := 1) (v := .slice none 0 0) rfl
            have rf := hR.frozen
            have rl := hR.lt
            clear hR
            have hne : w.heap.size + 1 + 1 ≠ g4 := by omega
            have hne2 : g4 ≠ w.heap.size + 1 + 1 := by omega
            go_wp2
            refine bodyPost_ret (v := .agg #[.int .i64 0, .slice (some ⟨g4, 0, none⟩) n c4]) (by simp [results, Try.results26, go_sem, r0, r1, hne, hne2]) rfl ⟨_, by rw [HZ.out], Or.inr ⟨HZ.out, g4, c4, PB, PC, rfl, ?_⟩, ?_⟩
            · rw [HKK.out.2]
              obtain ⟨q1, q5⟩ := H4.out
              have hs := q1.slide hkn t
              have hs2 := hs.keep (w' := (((w4.setCell ⟨g4, k * 6 + 4, none⟩ (.int .i64 t)).setCell ⟨w.heap.size + 1 + 1, 0, none⟩ (.int .i64 0)).setCell ⟨w.heap.size + 1 + 1, 1, none⟩ (.slice (some ⟨g4, 0, none⟩) n c4))) (fun j hj => by
                rw [Below.heap_setCell _ _ _ _ (by show j ≠ w.heap.size + 1 + 1; omega), Below.heap_setCell _ _ _ _ (by show j ≠ w.heap.size + 1 + 1; omega)])
              exact ⟨⟨by omega, hs2.2.1, fun i hi => ⟨by have := (hs2.2.2 i hi).1; omega, (hs2.2.2 i hi).2⟩⟩, hs2.2.1.lt, fun i hi => (hs2.2.2 i hi).2.lt⟩
            · exact BX.out.2.2.2.trans (Below.setCell (Below.setCell (Below.setCell (H4.out.2.mono hXz1) (by show w.heap.size ≤ g4; omega) _) (by show w.heap.size ≤ w.heap.size + 1 + 1; omega) _) (by show w.heap.size ≤ w.heap.size + 1 + 1; omega) _)
  · have hb : (d != 0) = true := by simpa using hz
    have HZ : Hid (c = d ∧ d ≠ 0) := ⟨by rw [HC.out, HD.out]; exact slc_bad (by rw [← HD.out]; exact hz), hz⟩
    clear hz
    go_wp2
    refine bodyPost_ret (v := .agg #[.int .i64 d, .slice none 0 0]) (by simp [results, Try.results26, go_sem, r0, r1]) rfl ⟨_, by rw [HZ.out.1], Or.inl ⟨by rw [HZ.out.1]; exact HZ.out.2, rfl⟩, ?_⟩
    exact BX.out.2.2.2.trans (Below.setCell (Below.setCell (HB1.out.mono hXz1) (by simp; omega) _) (by simp; omega) _)
end Go.Proofs.Ytinfbbbgfkaioaa
