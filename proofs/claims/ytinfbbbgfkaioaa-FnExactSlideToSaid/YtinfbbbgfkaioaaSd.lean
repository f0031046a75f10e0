/- SlideTo of the program. -/
import Derived.Test.YtinfbbbgfkaioaaTx
import Derived.Test.YtinfbbbgfkaioaaCp
import Derived.BigRegion
namespace Go.Proofs.Ytinfbbbgfkaioaa
open Go.RowKit
set_option linter.unusedVariables false
set_option linter.unusedSimpArgs false
/-- What SlideTo tells. -/
def slc (nodes slots : Int) (nf : Nat) (F : Nat → Fb) (n : Nat) (L : Nat → Li) (id t : Int) : Int :=
  if Nt.lfault nodes slots nf F n L = 0 then (if fnd L id n = -1 then 4 else
    (if t < 0 ∨ slots - (L (fnd L id n).toNat).wd < t then 3 else
      (if Nt.blocked L n (L (fnd L id n).toNat) (if t < (L (fnd L id n).toNat).fi then t else (L (fnd L id n).toNat).fi) ((if t < (L (fnd L id n).toNat).fi then (L (fnd L id n).toNat).fi else t) + (L (fnd L id n).toNat).wd) = true then 7 else 0)))
  else Nt.lfault nodes slots nf F n L
theorem slc_bad {nodes slots : Int} {nf : Nat} {F : Nat → Fb} {n : Nat} {L : Nat → Li} {id t : Int} (h : Nt.lfault nodes slots nf F n L ≠ 0) : slc nodes slots nf F n L id t = Nt.lfault nodes slots nf F n L := by
  unfold slc; rw [if_neg h]
theorem slc_none {nodes slots : Int} {nf : Nat} {F : Nat → Fb} {n : Nat} {L : Nat → Li} {id t : Int} (h0 : Nt.lfault nodes slots nf F n L = 0) (h : fnd L id n = -1) : slc nodes slots nf F n L id t = 4 := by
  unfold slc; rw [if_pos h0, if_pos h]
theorem slc_far {nodes slots : Int} {nf : Nat} {F : Nat → Fb} {n : Nat} {L : Nat → Li} {id t : Int} {k : Nat} (h0 : Nt.lfault nodes slots nf F n L = 0) (h : fnd L id n = (k : Int)) (ht : t < 0 ∨ slots - (L k).wd < t) : slc nodes slots nf F n L id t = 3 := by
  unfold slc; rw [if_pos h0, h, if_neg (by omega), Int.toNat_natCast, if_pos ht]
theorem slc_is {nodes slots : Int} {nf : Nat} {F : Nat → Fb} {n : Nat} {L : Nat → Li} {id t : Int} {k : Nat} (h0 : Nt.lfault nodes slots nf F n L = 0) (h : fnd L id n = (k : Int)) (ht : ¬ (t < 0 ∨ slots - (L k).wd < t)) {a b : Int} (ha : a = if t < (L k).fi then t else (L k).fi) (hb : b = if t < (L k).fi then (L k).fi else t) :
    slc nodes slots nf F n L id t = if Nt.blocked L n (L k) a (b + (L k).wd) = true then 7 else 0 := by
  unfold slc; rw [if_pos h0, h, if_neg (by omega), Int.toNat_natCast, if_neg ht, ← ha, ← hb]
set_option maxRecDepth 20000 in
set_option maxHeartbeats 3200000 in
theorem iSld_any {w : World} {ao lo : Option Addr} {nf cp n cl : Nat} {nodes slots : Int} {F : Nat → Fb} {L : Nat → Li} {id t c : Int} (hc : c = slc nodes slots nf F n L id t) (h : Rf w (.slice ao nf cp) nf F) (hl : RdL w (.slice lo n cl) n L) (hf : nf ≤ 1048576) (hw : LFew n L) (hcp : nf ≤ cp) (hd : LBd n L) :
    Calls Try.prog 28 #[.agg #[.int .i64 nodes, .int .i64 slots, .slice ao nf cp], .slice lo n cl, .agg #[.int .i64 id, .int .i64 t]] w fun e w' => ∃ v, e = .returned (.agg #[.int .i64 c, v]) ∧ OwnQ w.heap.size w'.heap.size w' c v n (slid L (fnd L id n).toNat t) ∧ Below w.heap.size w w' := by
  obtain ⟨X, hX⟩ : ∃ X, X = ((w.alloc (.cells #[.int .i64 nodes, .int .i64 slots, .slice ao nf cp] 37)).alloc (.cells #[.int .i64 id, .int .i64 t] 55)).alloc (.cells #[.int .i64 0, .slice none 0 0] 53) := ⟨_, rfl⟩
  have BX : Hid (Blk X w.heap.size #[.int .i64 nodes, .int .i64 slots, .slice ao nf cp] 37 ∧ Blk X (w.heap.size + 1) #[.int .i64 id, .int .i64 t] 55 ∧ Blk X (w.heap.size + 2) #[.int .i64 0, .slice none 0 0] 53 ∧ Below w.heap.size w X) := by
    rw [hX]
    exact ⟨((Blk.new rfl).alloc _).alloc _, (Blk.new (by simp)).alloc _, Blk.new (by simp), (((Below.refl _ _).alloc (Nat.le_refl _) _).alloc (by simp) _).alloc (by simp; omega) _⟩
  have hXz : w.heap.size + 2 < X.heap.size := BX.out.2.2.1.lt
  have hXz1 : w.heap.size ≤ X.heap.size := by omega
  have H : ∀ W, Below X.heap.size X W → Hid (Rf W (.slice ao nf cp) nf F ∧ RdL W (.slice lo n cl) n L) := fun W hb => ⟨h.later (BX.out.2.2.2.trans (hb.mono hXz1)), hl.later (BX.out.2.2.2.trans (hb.mono hXz1))⟩
  have hcall := rowsOf_any (nodes := nodes) (slots := slots) (H _ (Below.refl _ _)).out.1 (H _ (Below.refl _ _)).out.2 hf hw hcp hd
  have HW : Hid (LFew n L) := hw
  clear h hl hw hd
  have HC : Hid (c = slc nodes slots nf F n L id t) := hc
  clear hc
  have x0 := BX.out.1.cell (j := 0) (v := .int .i64 nodes) rfl
  have x1 := BX.out.1.cell (j := 1) (v := .int .i64 slots) rfl
  have x2 := BX.out.1.cell (j := 2) (v := .slice ao nf cp) rfl
  go_enter Try.func28, Try.ntmps28
  go_wp2_with fail
  rw [← hX]
  clear hX
  go_wp2_with fail
  refine hcall.mono ?_
  rintro e w1 ⟨v, rfl, htab, hb1⟩
  clear x0 x1 x2 hcall
  have HTb : Hid (Tab X.heap.size w1.heap.size w1 (Nt.lfault nodes slots nf F n L) v nf slots.toNat (fun f s => Nt.bk L n f s)) := htab
  have HB1 : Hid (Below X.heap.size X w1) := hb1
  clear htab hb1
  obtain ⟨d, hdd⟩ : ∃ d, d = Nt.lfault nodes slots nf F n L := ⟨_, rfl⟩
  have HD : Hid (d = Nt.lfault nodes slots nf F n L) := hdd
  rw [← hdd]
  clear hdd
  have hR := BX.out.2.2.1.old HB1.out
  have r0 := hR.cell (j := 0) (v := .int .i64 0) rfl
  have r1 := hR.cell (j := 1) (v := .slice none 0 0) rfl
  have rf := hR.frozen
  have rl := hR.lt
  have s0 := (BX.out.2.1.old HB1.out).cell (j := 0) (v := .int .i64 id) rfl
  clear hR
  by_cases hz : d = 0
  · have hb : (d != 0) = false := by simpa using hz
    have hfl : Nt.lfault nodes slots nf F n L = 0 := by rw [← HD.out]; exact hz
    clear hz
    go_wp2_with fail
    refine (iAt_any id (H _ HB1.out).out.2 HW.out.cn).mono ?_
    rintro e w2 ⟨rfl, hb2⟩
    have HB2 : Hid (Below w1.heap.size w1 w2 ∧ Below X.heap.size X w2) := ⟨hb2, HB1.out.trans (hb2.mono HB1.out.size)⟩
    clear hb2 r0 r1 rf rl s0
    have hR := BX.out.2.2.1.old HB2.out.2
    have r0 := hR.cell (j := 0) (v := .int .i64 0) rfl
    have r1 := hR.cell (j := 1) (v := .slice none 0 0) rfl
    have rf := hR.frozen
    have rl := hR.lt
    clear hR
    obtain ⟨f, hf0⟩ : ∃ f, f = fnd L id n := ⟨_, rfl⟩
    have HF : Hid (f = fnd L id n) := hf0
    rw [← hf0]
    clear hf0
    by_cases hm : f = -1
    · subst hm
      have HZ : Hid (c = 4) := by show _ = _; rw [HC.out]; exact slc_none hfl HF.out.symm
      clear hfl
      go_wp2
      refine bodyPost_ret (v := .agg #[.int .i64 4, .slice none 0 0]) (by simp [results, Try.results28, go_sem, r0, r1]) rfl ⟨_, by rw [HZ.out], Or.inl ⟨by rw [HZ.out]; decide, rfl⟩, ?_⟩
      exact BX.out.2.2.2.trans (Below.setCell (Below.setCell (HB2.out.2.mono hXz1) (by simp; omega) _) (by simp; omega) _)
    · obtain ⟨k, hkn, hk, hid⟩ := fnd_is (by rw [← HF.out]; exact hm)
      obtain ⟨G, hn40, hO⟩ := lf_good hfl
      have hok := hO.ok k hkn
      have hnf : 0 < nf := by have := hok.fib hok.one; omega
      obtain ⟨g, cap, bs, rfl, htb⟩ : ∃ g cap bs, v = .slice (some ⟨g, 0, none⟩) nf cap ∧ Tb X.heap.size w1.heap.size w1 g bs nf slots.toNat (fun f s => Nt.bk L n f s) := by
        rcases HTb.out with ⟨a | a, _⟩ | ⟨_, a⟩
        · exact absurd hfl a
        · omega
        · exact a
      have hfk : f = (k : Int) := by rw [HF.out]; exact hk
      have HKK : Hid (fnd L id n = (k : Int) ∧ (fnd L id n).toNat = k) := ⟨hk, by rw [hk]; rfl⟩
      subst hfk
      obtain ⟨b, off, qo, qc, rfl, hcell, hrow⟩ := (H w2 HB2.out.2).out.2.at hkn
      have d0 := hcell 0 (by omega)
      have d1 := hcell 1 (by omega)
      have d2 := hcell 2 (by omega)
      have d3 := hcell 3 (by omega)
      have d4 := hcell 4 (by omega)
      have d5 := hcell 5 (by omega)
      simp only [lcell, Nat.add_zero] at d0 d1 d2 d3 d4 d5
      have HTB : Hid (Tb X.heap.size w1.heap.size w2 g bs nf slots.toNat (fun f s => Nt.bk L n f s)) := htb.later HB2.out.1
      have HOk : Hid (Nt.AllOk nodes slots nf F n L ∧ Nt.Good nodes slots nf F ∧ Nt.LOk nodes slots nf F (L k) ∧ Nt.lfault nodes slots nf F n L = 0) := ⟨hO, G, hok, hfl⟩
      have s64 := G.s64
      have ot := hok.top
      have of0 := hok.f0
      have ow := hok.w1
      have hkI : (k : Int) < n := by omega
      have hk0 : ¬ (k : Int) < 0 := by omega
      have hnI : (n : Int) ≤ 40 := by omega
      obtain ⟨x, hx⟩ : ∃ x, x = L k := ⟨_, rfl⟩
      have HX : Hid (x = L k) := hx
      rw [← hx] at d0 d1 d2 d3 d4 d5 ot of0 ow hrow
      obtain ⟨Y, hY⟩ : ∃ Y, Y = w2.alloc (.cells #[.int .i64 x.id, .int .i64 x.fr, .int .i64 x.tt, .slice qo x.np qc, .int .i64 x.fi, .int .i64 x.wd] 80) := ⟨_, rfl⟩
      have BY : Hid (Blk Y w2.heap.size #[.int .i64 x.id, .int .i64 x.fr, .int .i64 x.tt, .slice qo x.np qc, .int .i64 x.fi, .int .i64 x.wd] 80 ∧ Below w2.heap.size w2 Y ∧ RdRow Y (.slice qo x.np qc) x.np x.p) := by
        have hb : Below w2.heap.size w2 Y := by rw [hY]; exact (Below.refl _ _).alloc (Nat.le_refl _) _
        exact ⟨by rw [hY]; exact Blk.new rfl, hb, hrow.later hb⟩
      have HXY : Hid (Below X.heap.size X Y) := HB2.out.2.trans (BY.out.2.1.mono HB2.out.2.size)
      clear hx hcell htb hok hO G hk hid hfl hm r0 r1 rf rl hrow HTb HB1
      go_upto_region 8 with fail
      rw [← hY]
      clear hY d0 d1 d2 d3 d4 d5
      have hR := BX.out.2.2.1.old HXY.out
      have r0 := hR.cell (j := 0) (v := .int .i64 0) rfl
      have r1 := hR.cell (j := 1) (v := .slice none 0 0) rfl
      have rf := hR.frozen
      have rl := hR.lt
      clear hR
      have s0 := (BX.out.2.1.old HXY.out).cell (j := 0) (v := .int .i64 id) rfl
      have s1 := (BX.out.2.1.old HXY.out).cell (j := 1) (v := .int .i64 t) rfl
      have n1 := (BX.out.1.old HXY.out).cell (j := 1) (v := .int .i64 slots) rfl
      have y0 := BY.out.1.cell (j := 0) (v := .int .i64 x.id) rfl
      have y3 := BY.out.1.cell (j := 3) (v := .slice qo x.np qc) rfl
      have y4 := BY.out.1.cell (j := 4) (v := .int .i64 x.fi) rfl
      have y5 := BY.out.1.cell (j := 5) (v := .int .i64 x.wd) rfl
      by_cases ht0 : t < 0
      · have HZ : Hid (c = 3) := by show _ = _; rw [HC.out]; exact slc_far HOk.out.2.2.2 HKK.out.1 (Or.inl ht0)
        go_wp2
        refine bodyPost_ret (v := .agg #[.int .i64 3, .slice none 0 0]) (by simp [results, Try.results28, go_sem, r0, r1]) rfl ⟨_, by rw [HZ.out], Or.inl ⟨by rw [HZ.out]; decide, rfl⟩, ?_⟩
        exact BX.out.2.2.2.trans (Below.setCell (Below.setCell (HXY.out.mono hXz1) (by simp; omega) _) (by simp; omega) _)
      · by_cases ht1 : slots - x.wd < t
        · have HZ : Hid (c = 3) := by show _ = _; rw [HC.out]; exact slc_far HOk.out.2.2.2 HKK.out.1 (Or.inr (by rw [← HX.out]; exact ht1))
          go_wp2
          refine bodyPost_ret (v := .agg #[.int .i64 3, .slice none 0 0]) (by simp [results, Try.results28, go_sem, r0, r1]) rfl ⟨_, by rw [HZ.out], Or.inl ⟨by rw [HZ.out]; decide, rfl⟩, ?_⟩
          exact BX.out.2.2.2.trans (Below.setCell (Below.setCell (HXY.out.mono hXz1) (by simp; omega) _) (by simp; omega) _)
        · go_upto_region 10 with fail
          go_quiet (fail)
          obtain ⟨A, hA⟩ : ∃ A : Nat, (if x.fi < t then x.fi else t) = (A : Int) := ⟨(if x.fi < t then x.fi else t).toNat, by split <;> omega⟩
          obtain ⟨B, hB⟩ : ∃ B : Nat, (if t < x.fi then x.fi else t) = (B : Int) := ⟨(if t < x.fi then x.fi else t).toNat, by split <;> omega⟩
          obtain ⟨E, hE⟩ : ∃ E : Nat, (B : Int) + x.wd = (E : Int) := ⟨((B : Int) + x.wd).toNat, by omega⟩
          have hAB : A ≤ B := by split at hA <;> split at hB <;> omega
          have hE64 : (E : Int) ≤ slots := by split at hB <;> omega
          have HCs : Hid (c = if Nt.blocked L n x (A : Int) (E : Int) = true then 7 else 0) := by
            show _ = _
            rw [HC.out, slc_is (a := (A : Int)) (b := (B : Int)) HOk.out.2.2.2 HKK.out.1 (by rw [← HX.out]; omega) (by rw [← hA, ← HX.out]; split <;> split <;> omega) (by rw [← hB, ← HX.out]), ← HX.out, hE]
          rw [hA, hB]
          have HAE : Hid (A < E) := by show A < E; omega
          clear hA hB
          obtain ⟨Z, hZ⟩ : ∃ Z, Z = Y.drewN nq := ⟨_, rfl⟩
          have HYZ : Hid (Below Y.heap.size Y Z) := by rw [hZ]; exact below_drewN (Below.refl _ _) _
          have HXZ : Hid (Below X.heap.size X Z) := HXY.out.trans (HYZ.out.mono HXY.out.size)
          rw [← hZ]
          clear hZ r0 r1 rf rl s0 s1 n1 y0 y3 y4 y5
          have hYB := BY.out.1.old HYZ.out
          have y0 := hYB.cell (j := 0) (v := .int .i64 x.id) rfl
          have y3 := hYB.cell (j := 3) (v := .slice qo x.np qc) rfl
          have y5 := hYB.cell (j := 5) (v := .int .i64 x.wd) rfl
          clear hYB
          have hcl := open_any (cap := cap) (HTB.out.later BY.out.2.1 |>.later HYZ.out) (BY.out.2.2.later HYZ.out) (fun j hj => by rw [HX.out] at hj ⊢; exact HOk.out.2.2.1.fib hj) A (E - A) (by have := HAE.out; omega) (by have := HAE.out; omega) (by omega) (by have := HOk.out.2.2.1.few; rw [HX.out]; omega) hf x.id
          rw [show A + (E - A) = E by have := HAE.out; omega, Nt.blocked_opn HOk.out.1 (fun j hj => by rw [HX.out] at hj ⊢; exact (HOk.out.2.2.1.fib hj).1) (by have := HAE.out; omega), show A + (E - A) = E by have := HAE.out; omega] at hcl
          obtain ⟨Bl, hBl⟩ : ∃ Bl, Bl = Nt.blocked L n x (A : Int) (E : Int) := ⟨_, rfl⟩
          rw [← hBl] at hcl
          have HBl : Hid (Bl = Nt.blocked L n x (A : Int) (E : Int)) := hBl
          clear hBl
          go_wp2_with fail
          refine hcl.mono ?_
          rintro e w3 ⟨rfl, hw3⟩
          obtain rfl := hw3
          clear hcl y0 y3 y5
          have hR := BX.out.2.2.1.old HXZ.out
          have r0 := hR.cell (j := 0) (v := .int .i64 0) rfl
          have r1 := hR.cell (j := 1) (v := .slice none 0 0) rfl
          have rf := hR.frozen
          have rl := hR.lt
          clear hR
          cases Bl with
          | true =>
            have HZ : Hid (c = 7) := by show _ = _; rw [HCs.out, ← HBl.out, if_pos rfl]
            go_wp2
            refine bodyPost_ret (v := .agg #[.int .i64 7, .slice none 0 0]) (by simp [results, Try.results28, go_sem, r0, r1]) rfl ⟨_, by rw [HZ.out], Or.inl ⟨by rw [HZ.out]; decide, rfl⟩, ?_⟩
            exact BX.out.2.2.2.trans (Below.setCell (Below.setCell (HXZ.out.mono hXz1) (by simp; omega) _) (by simp; omega) _)
          | false =>
            have HZ : Hid (c = 0) := by show _ = _; rw [HCs.out, ← HBl.out, if_neg (by decide)]
            clear r0 r1 rf rl
            go_wp2_with fail
            refine (copyL_any (H Z HXZ.out).out.2 (by omega) HW.out (fun i hi => (HOk.out.1.ok i hi).one)).mono ?_
            rintro e w4 ⟨g4, c4, rfl, hc4, how, hb4⟩
            obtain ⟨PB, PC, hcp4, hg4, hpb4, hap4⟩ := how.cpy
            have H4 : Hid (Cpy Z.heap.size w4 g4 n PB PC L ∧ g4 < w4.heap.size ∧ (∀ i, i < n → PB i < w4.heap.size) ∧ (∀ i j, i < n → j < n → PB i = PB j → i = j) ∧ Below X.heap.size X w4) := ⟨hcp4, hg4, hpb4, hap4, HXZ.out.trans (hb4.mono HXZ.out.size)⟩
            have hzz := HXZ.out.size
            have hgz := hcp4.1
            clear hcp4 hpb4 hap4 how hb4 hc4
            have s1 := (BX.out.2.1.old H4.out.2.2.2.2).cell (j := 1) (v := .int .i64 t) rfl
            have c4' : w4.cell? ⟨g4, k * 6 + 4, none⟩ = some (.int .i64 (L k).fi) := by have := H4.out.1.cell hkn (show 4 < 6 by omega); simpa [lcell] using this
            have cf : ∀ j, w4.frozen? ⟨g4, j, none⟩ = false := fun j => H4.out.1.2.1.frozen j
            have hR := BX.out.2.2.1.old H4.out.2.2.2.2
            have r0 := hR.cell (j := 0) (v := .int .i64 0) rfl
            have r1 := hR.cell (j := 1) (v := .slice none 0 0) rfl
            have rf := hR.frozen
            have rl := hR.lt
            clear hR
            have hne : w.heap.size + 1 + 1 ≠ g4 := by omega
            have hne2 : g4 ≠ w.heap.size + 1 + 1 := by omega
            go_wp2
            refine bodyPost_ret (v := .agg #[.int .i64 0, .slice (some ⟨g4, 0, none⟩) n c4]) (by simp [results, Try.results28, go_sem, r0, r1, hne, hne2]) rfl ⟨_, by rw [HZ.out], Or.inr ⟨HZ.out, g4, c4, rfl, ?_⟩, ?_⟩
            · rw [HKK.out.2]
              obtain ⟨q1, q2, q3, q4, q5⟩ := H4.out
              have hs := q1.slide hkn t
              have hs2 := hs.keep (w' := (((w4.setCell ⟨g4, k * 6 + 4, none⟩ (.int .i64 t)).setCell ⟨w.heap.size + 1 + 1, 0, none⟩ (.int .i64 0)).setCell ⟨w.heap.size + 1 + 1, 1, none⟩ (.slice (some ⟨g4, 0, none⟩) n c4))) (fun j hj => by
                rw [Below.heap_setCell _ _ _ _ (by show j ≠ w.heap.size + 1 + 1; omega), Below.heap_setCell _ _ _ _ (by show j ≠ w.heap.size + 1 + 1; omega)])
              have hs3 : Cpy w.heap.size (((w4.setCell ⟨g4, k * 6 + 4, none⟩ (.int .i64 t)).setCell ⟨w.heap.size + 1 + 1, 0, none⟩ (.int .i64 0)).setCell ⟨w.heap.size + 1 + 1, 1, none⟩ (.slice (some ⟨g4, 0, none⟩) n c4)) g4 n PB PC (slid L k t) := ⟨by omega, hs2.2.1, fun i hi => ⟨by have := (hs2.2.2 i hi).1; omega, (hs2.2.2 i hi).2⟩⟩
              exact hs3.own (by simpa using q2) (fun i hi => by simpa using q3 i hi) q4
            · exact BX.out.2.2.2.trans (Below.setCell (Below.setCell (Below.setCell (H4.out.2.2.2.2.mono hXz1) (by show w.heap.size ≤ g4; omega) _) (by show w.heap.size ≤ w.heap.size + 1 + 1; omega) _) (by show w.heap.size ≤ w.heap.size + 1 + 1; omega) _)
  · have hb : (d != 0) = true := by simpa using hz
    have HZ : Hid (c = d ∧ d ≠ 0) := ⟨by rw [HC.out, HD.out]; exact slc_bad (by rw [← HD.out]; exact hz), hz⟩
    clear hz
    go_wp2
    refine bodyPost_ret (v := .agg #[.int .i64 d, .slice none 0 0]) (by simp [results, Try.results28, go_sem, r0, r1]) rfl ⟨_, by rw [HZ.out.1], Or.inl ⟨by rw [HZ.out.1]; exact HZ.out.2, rfl⟩, ?_⟩
    exact BX.out.2.2.2.trans (Below.setCell (Below.setCell (HB1.out.mono hXz1) (by simp; omega) _) (by simp; omega) _)
end Go.Proofs.Ytinfbbbgfkaioaa
