/- The program's lightsBehind: contract. -/
import Derived.Test.YtboppklcmdfphaaFi
namespace Go.Proofs.Ytboppklcmdfphaa
open Go.RowKit
set_option linter.unusedVariables false
set_option linter.unusedSimpArgs false
set_option maxRecDepth 20000 in
set_option maxHeartbeats 3200000 in
theorem lights_any {w : World} {ao bo : Option Addr} {np nc cp cq : Nat} {sd : Int} {ph : Nat → Int} {C : Nat → Ce} (h : Me w (.slice ao np cp) (.slice bo nc cq) np ph nc C) {v : Value} {wd : Nat} {A : Rm.Mx} (hA : RdMat w v np (fun _ => wd) A) (hn0 : 0 < np) (hn : np ≤ 1000) (hw0 : 0 < wd) (hw : wd ≤ 1000) (hc : nc ≤ 600) (hfit : Rm.fitsB (np : Int) C nc = true) :
    Calls Try.prog 73 #[.agg #[.int .i64 sd, .slice ao np cp, .slice bo nc cq], v] w fun e w' => ∃ m : Lie, e = .returned (.slice (some ⟨m.b, 0, none⟩) np m.cap) ∧ Mat w.heap.size w'.heap.size w' m np (fun _ => wd) (fun i t => Rm.fire ph C (fun r => A r t) nc i) ∧ Below w.heap.size w w' := by
  obtain ⟨vb, vo, vc, vs, rfl, hvs⟩ : ∃ (b off cap : Nat) (vs : Nat → Value), v = .slice (some ⟨b, off, none⟩) np cap ∧ ∀ i, i < np → w.cell? ⟨b, off + i, none⟩ = some (vs i) ∧ RdRow w (vs i) wd (A i) := by
    rcases hA with ⟨_, _, _, e⟩ | hA
    · omega
    · exact hA
  obtain ⟨X, hX⟩ : ∃ X, X = (w.alloc (.cells #[.int .i64 sd, .slice ao np cp, .slice bo nc cq] 49)) := ⟨_, rfl⟩
  have BX : Hid (Blk X w.heap.size #[.int .i64 sd, .slice ao np cp, .slice bo nc cq] 49 ∧ Below w.heap.size w X) := by rw [hX]; exact ⟨Blk.new rfl, (Below.refl _ _).alloc (Nat.le_refl _) _⟩
  have hX0 : w.heap.size < X.heap.size := BX.out.1.lt
  have HM : ∀ W, Below X.heap.size X W → Hid (Me W (.slice ao np cp) (.slice bo nc cq) np ph nc C) := fun W hb => h.later (BX.out.2.trans (hb.mono (Nat.le_of_lt hX0)))
  clear h
  have HV : Hid (∀ i, i < np → X.cell? ⟨vb, vo + i, none⟩ = some (vs i) ∧ RdRow X (vs i) wd (A i)) := fun i hi => ⟨(BX.out.2.cell (World.block_lt_of_cell? _ _ (hvs i hi).1)).trans (hvs i hi).1, (hvs i hi).2.later BX.out.2⟩
  clear hvs
  have HF : Hid (Rm.fitsB (np : Int) C nc = true) := hfit
  clear hfit
  go_enter Try.func73, Try.ntmps73
  go_wp2_with fail
  rw [← hX]
  clear hX
  refine (guides_any vb vo np vc vs (fun _ => wd) A X (by omega) (fun _ _ => ⟨hw0, by omega⟩) HV.out).mono ?_
  rintro e w1 ⟨rfl, hg, hb1⟩
  obtain ⟨m, hm⟩ : ∃ m : Lie, m = newLie X.heap.size np (fun _ => wd) := ⟨_, rfl⟩
  rw [← hm] at hg
  have EM : Hid ((newLie X.heap.size np (fun _ => wd)).val np = .slice (some ⟨m.b, 0, none⟩) np m.cap) := by rw [hm]; rfl
  rw [EM.out]
  clear hm EM HV
  have H1 : Hid (Gm X.heap.size w1.heap.size w1 m np (fun _ => wd) (fun i j => Rm.md (A i j)) ∧ Below X.heap.size X w1) := ⟨hg, hb1⟩
  have hB := BX.out.1.old hb1
  have x1 := hB.cell (j := 1) rfl
  have zX := hb1.size
  clear hB hg hb1
  go_wp2_with fail
  refine (residues_any (HM _ H1.out.2).out.p hn0 (by omega)).mono ?_
  rintro e w2 ⟨rfl, hs, hb2, hz2⟩
  have z2 : w1.heap.size + 1 ≤ w2.heap.size := by omega
  have H2 : Hid (Gm X.heap.size w1.heap.size w2 m np (fun _ => wd) (fun i j => Rm.md (A i j)) ∧ Below X.heap.size X w2 ∧ Seg w2 w1.heap.size 92 0 np (fun i => .int .i64 (Rm.md (ph i)))) :=
    ⟨H1.out.1.keep (fun k _ h2 => hb2.block k h2), H1.out.2.trans (hb2.mono zX), hs⟩
  clear x1 H1 hs hb2 hz2
  go_wp2_with fail
  go_loopw [18] (fun s wr => ∃ i : Nat, i ≤ np ∧ s = .int .i64 i ∧ Hid (Gm X.heap.size w1.heap.size wr m np (fun _ => wd) (fun r t => if r < i then Rm.mulM (A r t) (ph r) else Rm.md (A r t)) ∧ Below X.heap.size X wr ∧ Seg wr w1.heap.size 92 0 np (fun i => .int .i64 (Rm.md (ph i))) ∧ w1.heap.size + 1 ≤ wr.heap.size)) (fun s _ => np - (intOf s).toNat)
  case atStart => exact ⟨0, Nat.zero_le _, rfl, H2.out.1.congr (fun r t _ _ => by simp), H2.out.2.1, H2.out.2.2, z2⟩
  case round =>
    obtain ⟨i, hi, rfl, HS⟩ := hrel
    by_cases hin : i < np
    · have g1 : wr.cell? ⟨w1.heap.size, i, none⟩ = some (.int .i64 (Rm.md (ph i))) := by simpa using HS.out.2.2.1.cell hin
      go_wp2_with fail
      refine (multiply_any HS.out.1 i _ hin (by omega) (by omega)).mono ?_
      rintro e w3 ⟨rfl, hg, hw3, hz3⟩
      have HN : Hid (Gm X.heap.size w1.heap.size w3 m np (fun _ => wd) (fun r t => if r < i + 1 then Rm.mulM (A r t) (ph r) else Rm.md (A r t)) ∧ Below X.heap.size X w3 ∧ Seg w3 w1.heap.size 92 0 np (fun i => .int .i64 (Rm.md (ph i))) ∧ w1.heap.size + 1 ≤ w3.heap.size) := by
        refine ⟨hg.congr fun r t _ _ => ?_, HS.out.2.1.trans hw3.below, HS.out.2.2.1.of_block (hw3.above _ (Nat.le_refl _) (by have := HS.out.2.2.2; omega)), by have := HS.out.2.2.2; omega⟩
        by_cases e : r = i
        · subst e; simp [Rm.mulM_mdl, Rm.mulM_mdr]
        · by_cases e2 : r < i
          · simp [e, e2, Nat.lt_succ_of_lt e2]
          · have e3 : ¬ r < i + 1 := by omega
            simp [e, e2, e3]
      clear hg hw3 hz3 HS g1
      go_wp2
      exact ⟨⟨i + 1, by omega, by simp, HN⟩, by simp [intOf]; omega⟩
    · obtain rfl : i = np := by omega
      obtain ⟨Y, hY⟩ : ∃ Y, Y = wr := ⟨_, rfl⟩
      subst hY
      have H3 : Hid (Gm X.heap.size w1.heap.size Y m i (fun _ => wd) (fun r t => Rm.fire ph C (fun r => A r t) 0 r) ∧ Below X.heap.size X Y ∧ w1.heap.size + 1 ≤ Y.heap.size) := ⟨HS.out.1.congr (fun r t hr _ => by simp [hr, Rm.fire]), HS.out.2.1, HS.out.2.2.2⟩
      have hB := BX.out.1.old HS.out.2.1
      have x2 := hB.cell (j := 2) rfl
      clear hB HS
      go_wp2_with fail
      clear x2
      go_loopw [32] (fun s wr => ∃ k : Nat, k ≤ nc ∧ s = .int .i64 k ∧ Hid (Gm X.heap.size w1.heap.size wr m i (fun _ => wd) (fun r t => Rm.fire ph C (fun r => A r t) k r) ∧ Below X.heap.size X wr ∧ w1.heap.size + 1 ≤ wr.heap.size)) (fun s _ => nc - (intOf s).toNat)
      case atStart => exact ⟨0, Nat.zero_le _, rfl, H3.out⟩
      case round =>
        obtain ⟨k, hk, rfl, HS⟩ := hrel
        by_cases hkn : k < nc
        · obtain ⟨b, rfl, hcc⟩ := (HM _ HS.out.2.1).out.c.at hkn
          have hB := BX.out.1.old HS.out.2.1
          have x2 := hB.cell (j := 2) rfl
          have g0 : wr.cell? ⟨b, k * 6, none⟩ = some (.int .i64 (C k).i) := hcc 0 (by omega)
          have g1 : wr.cell? ⟨b, k * 6 + 1, none⟩ = some (.int .i64 (C k).j) := hcc 1 (by omega)
          have g2 : wr.cell? ⟨b, k * 6 + 2, none⟩ = some (.int .i64 (C k).a) := hcc 2 (by omega)
          have g3 : wr.cell? ⟨b, k * 6 + 3, none⟩ = some (.int .i64 (C k).b) := hcc 3 (by omega)
          have g4 : wr.cell? ⟨b, k * 6 + 4, none⟩ = some (.int .i64 (C k).c) := hcc 4 (by omega)
          have g5 : wr.cell? ⟨b, k * 6 + 5, none⟩ = some (.int .i64 (C k).d) := hcc 5 (by omega)
          have hft := Rm.fit_told (Rm.fits_all HF.out k hkn)
          clear hB hcc
          obtain ⟨g, hg⟩ : ∃ g, g = C k := ⟨_, rfl⟩
          have HG : Hid (g = C k) := hg
          rw [← hg] at g0 g1 g2 g3 g4 g5 hft
          clear hg
          go_wp2_with fail
          refine (coupler_any g _).mono ?_
          rintro e w3 ⟨rfl, hb3⟩
          have H4 : Hid (Gm X.heap.size w1.heap.size w3 m i (fun _ => wd) (fun r t => Rm.fire ph C (fun r => A r t) k r) ∧ Below X.heap.size X w3 ∧ w1.heap.size + 1 ≤ w3.heap.size) :=
            ⟨HS.out.1.keep (fun q _ h2 => hb3.block q (by have := HS.out.2.2; omega)), HS.out.2.1.trans (hb3.mono HS.out.2.1.size), by have := HS.out.2.2; have := hb3.size; omega⟩
          obtain ⟨I, hI⟩ : ∃ I : Nat, (I : Int) = g.i := ⟨g.i.toNat, by omega⟩
          obtain ⟨J, hJ⟩ : ∃ J : Nat, (J : Int) = g.j := ⟨g.j.toNat, by omega⟩
          have HIJ : Hid ((I : Int) = g.i ∧ (J : Int) = g.j) := ⟨hI, hJ⟩
          have hIn : I < i := by omega
          have hJn : J < i := by omega
          have hIJ : I ≠ J := by omega
          rw [← hI, ← hJ]
          clear HS hb3 g0 g1 g2 g3 g4 g5 x2 hft hI hJ
          go_wp2_with fail
          refine (couple_any H4.out.1 I J _ _ _ _ hIn hJn hIJ (by omega) (by omega) (by have := H4.out.2.2; omega) (by have := H4.out.2.2; omega)).mono ?_
          rintro e w4 ⟨rfl, hg4, hw4⟩
          have HN : Hid (Gm X.heap.size w1.heap.size w4 m i (fun _ => wd) (fun r t => Rm.fire ph C (fun r => A r t) (k + 1) r) ∧ Below X.heap.size X w4 ∧ w1.heap.size + 1 ≤ w4.heap.size) := by
            refine ⟨hg4.congr fun r t hr ht => ?_, H4.out.2.1.trans hw4.below, by have := H4.out.2.2; have := hw4.below.size; omega⟩
            rw [cpl_fire HIJ.out.1 HIJ.out.2 ht, HG.out]
            rfl
          clear H4 hg4 hw4
          go_wp2
          exact ⟨⟨k + 1, by omega, by simp, HN⟩, by simp [intOf]; omega⟩
        · obtain rfl : k = nc := by omega
          clear H3 H2
          obtain ⟨Z, hZ⟩ : ∃ Z, Z = wr := ⟨_, rfl⟩
          subst hZ
          have hmk := run_make_row' (P := Try.prog) 22 32 (.slice none 0 0) 24 Try.underlying22 info38 rfl .i64 .i64 i (by omega) (by omega)
          have zZ : w1.heap.size + 1 ≤ Z.heap.size := HS.out.2.2
          have HZ : ∀ W, Below Z.heap.size Z W → Hid (Gm X.heap.size w1.heap.size W m i (fun _ => wd) (fun r t => Rm.fire ph C (fun r => A r t) k r) ∧ Below X.heap.size X W) := fun W hb => ⟨HS.out.1.keep (fun q _ h2 => hb.block q (by omega)), HS.out.2.1.trans (hb.mono HS.out.2.1.size)⟩
          clear HS
          go_wp2_with fail
          clear hmk
          go_loopw [49] (fun s wr => ∃ j : Nat, j ≤ i ∧ s = .int .i64 j ∧ Hid (Laying Z.heap.size wr i j (fun _ => wd) (fun r t => Rm.fire ph C (fun r => A r t) k r) ∧ Below Z.heap.size Z wr)) (fun s _ => i - (intOf s).toNat)
          case atStart => exact ⟨0, Nat.zero_le _, rfl, laying_start Z i _ _, (Below.refl _ _).alloc (Nat.le_refl _) _⟩
          case round =>
            obtain ⟨j, hj, rfl, HS⟩ := hrel
            by_cases hjn : j < i
            · have g1 : wr.cell? ⟨m.b, j, none⟩ = some (.slice (some ⟨m.bs j, m.os j, none⟩) wd (m.cs j)) := (HZ _ HS.out.2).out.1.cellRow hjn
              have HR : Hid (RdRow wr (.slice (some ⟨m.bs j, m.os j, none⟩) wd (m.cs j)) wd (fun t => Rm.fire ph C (fun r => A r t) k j)) := ((HZ _ HS.out.2).out.1.row j hjn).rd
              go_wp2_with fail
              refine (tell_any HR.out hw0 (by omega)).mono ?_
              rintro e w5 ⟨rfl, hr, hb5, hz5⟩
              have hT := HS.out.1.top
              have hz0 := HS.out.1.size
              have hT1 : Seg w5 Z.heap.size 32 0 i (fun q => if q < j then (newLie Z.heap.size i (fun _ => wd)).row (fun _ => wd) q else .slice none 0 0) := hT.of_block (hb5.block _ (by omega))
              have g2 : w5.cell? ⟨Z.heap.size, j, none⟩ = some (.slice none 0 0) := by simpa using hT1.cell hjn
              have g3 : w5.frozen? ⟨Z.heap.size, j, none⟩ = false := hT1.frozen j
              have HN : Hid (Laying Z.heap.size (w5.setCell ⟨Z.heap.size, j, none⟩ (.slice (some ⟨Z.heap.size + 1 + j, 0, none⟩) wd wd)) i (j + 1) (fun _ => wd) (fun r t => Rm.fire ph C (fun r => A r t) k r) ∧ Below Z.heap.size Z (w5.setCell ⟨Z.heap.size, j, none⟩ (.slice (some ⟨Z.heap.size + 1 + j, 0, none⟩) wd wd))) :=
                ⟨HS.out.1.step hjn hb5 hz5 hr, (HS.out.2.trans (hb5.mono (by omega))).setCell (Nat.le_refl _) _⟩
              rw [hz0]
              clear hT hT1 hr hb5 hz5 hz0 HS HR g1
              go_wp2
              exact ⟨⟨j + 1, by omega, by simp, HN⟩, by simp [intOf]; omega⟩
            · obtain rfl : j = i := by omega
              have HL : Hid (Mat Z.heap.size wr.heap.size wr (newLie Z.heap.size j (fun _ => wd)) j (fun _ => wd) (fun r t => Rm.fire ph C (fun r => A r t) k r) ∧ Below X.heap.size X wr) := ⟨HS.out.1.mat, (HZ _ HS.out.2).out.2⟩
              clear HS HZ
              go_wp2
              go_ret
              refine ⟨newLie Z.heap.size j (fun _ => wd), rfl, HL.out.1.wide (by omega) (Nat.le_refl _), BX.out.2.trans (HL.out.2.mono (by omega))⟩
end Go.Proofs.Ytboppklcmdfphaa
