/- FireMesh of both packages: contracts. -/
import Derived.Test.YtboppklcmdfphaaRd
import Derived.Test.YtboppklcmdfphaaWv
import Derived.Deep.RegionHeld3
namespace Go.Proofs.Ytboppklcmdfphaa
open Go.RowKit
set_option linter.unusedVariables false
set_option linter.unusedSimpArgs false
/-- What FireMesh answers first. -/
def fcode (c0 : Int) (n : Nat) (sd : Int) : Int := if c0 ≠ 0 then c0 else if (n : Int) ≠ sd then 1 else 0
theorem fcode_ok {c0 sd : Int} {n : Nat} (h : fcode c0 n sd = 0) : c0 = 0 ∧ (n : Int) = sd := by
  unfold fcode at h
  split at h
  · omega
  · split at h
    · omega
    · omega
theorem ownL_two {lo : Nat} {W : World} {c : Int} {g cap n : Nat} {f : Nat → Int} (hc : c = 0) (h : Seg W g 2 0 n (fun i => .int .i64 (f i))) (hl : lo ≤ g) {r : Nat} (hr : r ≠ g) (x y : Value) : OwnL lo ((W.setCell ⟨r, 0, none⟩ x).setCell ⟨r, 1, none⟩ y).heap.size ((W.setCell ⟨r, 0, none⟩ x).setCell ⟨r, 1, none⟩ y) c (.slice (some ⟨g, 0, none⟩) n cap) n f :=
  Or.inr ⟨hc, g, cap, rfl, hl, by simpa using h.lt, (h.setOther (by show g ≠ r; omega) _).setOther (by show g ≠ r; omega) _⟩
/-- A list as a matrix of one row. -/
theorem shp_one {W : World} {lb lo lc n : Nat} {x : Nat → Int} (h : ∀ i, i < n → W.cell? ⟨lb, lo + i, none⟩ = some (.int .i64 (x i))) (t : TypeId) :
    Shp (fun i j y => y = (fun _ j => x j : Rm.Mx) i j) W.heap.size 0 1 n (fun _ => (lb, lo, lc)) (W.alloc (.cells #[.slice (some ⟨lb, lo, none⟩) n lc] t)) := by
  have hb : Below W.heap.size W (W.alloc (.cells #[.slice (some ⟨lb, lo, none⟩) n lc] t)) := (Below.refl _ _).alloc (Nat.le_refl _) _
  intro i hi
  obtain rfl : i = 0 := by omega
  refine ⟨?_, fun j hj => ⟨x j, (hb.cell (World.block_lt_of_cell? _ _ (h j hj))).trans (h j hj), rfl⟩⟩
  have : Blk (W.alloc (.cells #[.slice (some ⟨lb, lo, none⟩) n lc] t)) W.heap.size #[.slice (some ⟨lb, lo, none⟩) n lc] t := Blk.new rfl
  exact this.cell (j := 0) rfl
theorem shp_oneD {W : World} {lb lo lc n : Nat} {x : Nat → Int} (h : ∀ i, i < n → W.cell? ⟨lb, lo + i, none⟩ = some (.int .i64 (x i))) (t : TypeId) :
    Shp (fun i j y => y = (fun _ j => x j : Rm.Mx) i j) W.heap.size 0 1 n (fun _ => (lb, lo, lc)) (W.alloc (.cells #[.slice (some ⟨lb, lo, none⟩) n lc] t)).drew := shp_one h t
set_option maxRecDepth 20000 in
set_option maxHeartbeats 3200000 in
theorem sFM_any {w : World} {ao bo : Option Addr} {np nc cp cq : Nat} {sd : Int} {ph : Nat → Int} {C : Nat → Ce} (h : Me w (.slice ao np cp) (.slice bo nc cq) np ph nc C) {va : Option Addr} {n vc : Nat} {x : Nat → Int} (hx : RdRow w (.slice va n vc) n x) (hp : np ≤ 1048576) (hn : nc ≤ 1048576) (hnn : n ≤ 1048576) {c : Int} (hc : c = fcode (Rm.mfault sd np ph nc C) n sd) :
    Calls Try.prog 35 #[.agg #[.int .i64 sd, .slice ao np cp, .slice bo nc cq], .slice va n vc] w fun e w' => ∃ v, e = .returned (.agg #[.int .i64 c, v]) ∧ OwnL w.heap.size w'.heap.size w' c v np (fun i => Rm.fire ph C x nc i) ∧ Below w.heap.size w w' := by
  obtain ⟨X, hX⟩ : ∃ X, X = (w.alloc (.cells #[.int .i64 sd, .slice ao np cp, .slice bo nc cq] 49)).alloc (.cells #[.int .i64 0, .slice none 0 0] 53) := ⟨_, rfl⟩
  have BX : Hid (Blk X w.heap.size #[.int .i64 sd, .slice ao np cp, .slice bo nc cq] 49 ∧ Below w.heap.size w X ∧ Blk X (w.heap.size + 1) #[.int .i64 0, .slice none 0 0] 53 ∧ X.heap.size = w.heap.size + 1 + 1) := by rw [hX]; exact ⟨(Blk.new rfl).alloc _, ((Below.refl _ _).alloc (Nat.le_refl _) _).alloc (by simp) _, Blk.new (by simp), by simp⟩
  have hX0 : w.heap.size < X.heap.size := BX.out.1.lt
  have HM : ∀ W, Below X.heap.size X W → Hid (Me W (.slice ao np cp) (.slice bo nc cq) np ph nc C) := fun W hb => h.later (BX.out.2.1.trans (hb.mono (Nat.le_of_lt hX0)))
  clear h
  have x0 := BX.out.1.cell (j := 0) rfl
  have x1 := BX.out.1.cell (j := 1) rfl
  have x2 := BX.out.1.cell (j := 2) rfl
  have HXX : ∀ W, Below X.heap.size X W → Hid (RdRow W (.slice va n vc) n x) := fun W hb => hx.later (BX.out.2.1.trans (hb.mono (Nat.le_of_lt hX0)))
  clear hx
  obtain ⟨c0, hc0⟩ : ∃ c0, c0 = Rm.mfault sd np ph nc C := ⟨_, rfl⟩
  have HCC : Hid (c0 = Rm.mfault sd np ph nc C ∧ c = fcode c0 n sd) := by rw [← hc0] at hc; exact ⟨hc0, hc⟩
  clear hc hc0
  go_enter Try.func35, Try.ntmps35
  go_wp2_with fail
  rw [← hX]
  clear hX
  refine (sMf_any (HM _ (Below.refl _ _)).out hp hn).mono ?_
  rintro e w1 ⟨rfl, hb1⟩
  rw [← HCC.out.1]
  clear x0 x1 x2
  by_cases h0 : c0 = 0
  · have hok := Rm.mfault_ok (HCC.out.1.symm.trans h0)
    have HC0 : Hid (c0 = 0) := h0
    have hp24 : np ≤ 24 := by omega
    have hp0 : 0 < np := by omega
    have hc600 : nc ≤ 600 := by omega
    have HFT : Hid ((np : Int) = sd ∧ Rm.fitsB (np : Int) C nc = true) := ⟨hok.2.2.2.1, by rw [hok.2.2.2.1]; exact hok.2.2.2.2⟩
    clear hok
    rw [HC0.out]
    clear h0
    by_cases hs : (n : Int) = sd
    · have hne : (((n : Nat) : Int) != sd) = false := by rw [hs]; simp
      have HCZ : Hid (c = 0) := by show c = 0; rw [HCC.out.2, HC0.out]; simp [fcode, hs]
      obtain rfl : n = np := by have := HFT.out.1; omega
      clear hs
      have hB := BX.out.1.old hb1
      have y0 := hB.cell (j := 0) rfl
      have y1 := hB.cell (j := 1) rfl
      have y2 := hB.cell (j := 2) rfl
      have hl := hB.lt
      clear hB
      have HB1 : Hid (Below X.heap.size X w1) := hb1
      clear hb1
      go_wp2_with fail
      refine (sFire_any (HM _ HB1.out).out (HXX _ HB1.out).out hp0 hp24 hc600 HFT.out.2).mono ?_
      rintro e w2 ⟨g, gc, rfl, hg1, hg2, hseg, hb2⟩
      clear y0 y1 y2 hl
      have HB2 : Hid (Below X.heap.size X w2) := HB1.out.trans (hb2.mono HB1.out.size)
      have zP : X.heap.size ≤ w1.heap.size := HB1.out.size
      have HSG : Hid (Seg w2 g 2 0 n (fun i => .int .i64 (Rm.fire ph C x nc i)) ∧ w1.heap.size ≤ g) := ⟨hseg, hg1⟩
      clear hseg hb2 HM HXX hg1 hg2
      have hB := BX.out.1.old HB2.out
      have y0 := hB.cell (j := 0) rfl
      have y1 := hB.cell (j := 1) rfl
      have y2 := hB.cell (j := 2) rfl
      have hl := hB.lt
      clear hB
      have hR := BX.out.2.2.1.old HB2.out
      have HR : Hid (Blk w2 (w.heap.size + 1) #[.int .i64 0, .slice none 0 0] 53) := hR
      have r0 := hR.cell (j := 0) rfl
      have r1 := hR.cell (j := 1) rfl
      have rf := hR.frozen
      have rl := hR.lt
      clear hR
      go_wp2
      refine bodyPost_ret (res_of (cs := #[.int .i64 0, .slice (some ⟨g, 0, none⟩) n gc]) Try.results35 rfl ((HR.out.set 0 _ rfl).set 1 _ rfl) Try.underlying53 (by kernel_rfl)) rfl ⟨_, by rw [HCZ.out], ?_, ?_⟩
      · have hx := BX.out.2.2.2
        have hg := HSG.out.2
        exact ownL_two HCZ.out HSG.out.1 (by omega) (by omega) _ _
      · exact ((BX.out.2.1.trans (HB2.out.mono (Nat.le_of_lt hX0))).setCell (by simp) _).setCell (by simp) _
    · have hne : (((n : Nat) : Int) != sd) = true := by rw [bne_iff_ne]; exact hs
      have HCZ : Hid (c = 1) := by show c = 1; rw [HCC.out.2, HC0.out]; simp [fcode, hs]
      clear hs
      have hB := BX.out.1.old hb1
      have y0 := hB.cell (j := 0) rfl
      have y1 := hB.cell (j := 1) rfl
      have y2 := hB.cell (j := 2) rfl
      have hl := hB.lt
      clear hB
      have hR := BX.out.2.2.1.old hb1
      have HR : Hid (Blk w1 (w.heap.size + 1) #[.int .i64 0, .slice none 0 0] 53) := hR
      have r0 := hR.cell (j := 0) rfl
      have r1 := hR.cell (j := 1) rfl
      have rf := hR.frozen
      have rl := hR.lt
      clear hR
      have HBW : Hid (Below w.heap.size w w1) := BX.out.2.1.trans (hb1.mono (Nat.le_of_lt hX0))
      clear hb1 HM HXX
      go_wp2
      refine bodyPost_ret (res_of (cs := #[.int .i64 1, .slice none 0 0]) Try.results35 rfl ((HR.out.set 0 _ rfl).set 1 _ rfl) Try.underlying53 (by kernel_rfl)) rfl ⟨_, by rw [HCZ.out], Or.inl ⟨by rw [HCZ.out]; omega, rfl⟩, ?_⟩
      exact (HBW.out.setCell (by simp) _).setCell (by simp) _
  · have h1 : (c0 != 0) = true := by rw [bne_iff_ne]; exact h0
    have HCZ : Hid (c = c0 ∧ c0 ≠ 0) := by refine ⟨?_, h0⟩; rw [HCC.out.2]; simp [fcode, h0]
    clear h0
    have hB := BX.out.1.old hb1
    have y0 := hB.cell (j := 0) rfl
    have y1 := hB.cell (j := 1) rfl
    have y2 := hB.cell (j := 2) rfl
    have hl := hB.lt
    clear hB
    have hR := BX.out.2.2.1.old hb1
    have HR : Hid (Blk w1 (w.heap.size + 1) #[.int .i64 0, .slice none 0 0] 53) := hR
    have r0 := hR.cell (j := 0) rfl
    have r1 := hR.cell (j := 1) rfl
    have rf := hR.frozen
    have rl := hR.lt
    clear hR
    have HBW : Hid (Below w.heap.size w w1) := BX.out.2.1.trans (hb1.mono (Nat.le_of_lt hX0))
    clear hb1 HM HXX
    go_wp2
    refine bodyPost_ret (res_of (cs := #[.int .i64 c0, .slice none 0 0]) Try.results35 rfl ((HR.out.set 0 _ rfl).set 1 _ rfl) Try.underlying53 (by kernel_rfl)) rfl ⟨_, by rw [HCZ.out.1], Or.inl ⟨by rw [HCZ.out.1]; exact HCZ.out.2, rfl⟩, ?_⟩
    exact (HBW.out.setCell (by simp) _).setCell (by simp) _
set_option maxRecDepth 20000 in
set_option maxHeartbeats 3200000 in
theorem iFM_any {w : World} {ao bo : Option Addr} {np nc cp cq : Nat} {sd : Int} {ph : Nat → Int} {C : Nat → Ce} (h : Me w (.slice ao np cp) (.slice bo nc cq) np ph nc C) {va : Option Addr} {n vc : Nat} {x : Nat → Int} (hx : RdRow w (.slice va n vc) n x) (hp : np ≤ 1048576) (hn : nc ≤ 1048576) (hnn : n ≤ 1048576) {c : Int} (hc : c = fcode (Rm.mfault sd np ph nc C) n sd) :
    Calls Try.prog 36 #[.agg #[.int .i64 sd, .slice ao np cp, .slice bo nc cq], .slice va n vc] w fun e w' => ∃ v, e = .returned (.agg #[.int .i64 c, v]) ∧ OwnL w.heap.size w'.heap.size w' c v np (fun i => Rm.fire ph C x nc i) ∧ Below w.heap.size w w' := by
  obtain ⟨X, hX⟩ : ∃ X, X = (w.alloc (.cells #[.int .i64 sd, .slice ao np cp, .slice bo nc cq] 49)).alloc (.cells #[.int .i64 0, .slice none 0 0] 53) := ⟨_, rfl⟩
  have BX : Hid (Blk X w.heap.size #[.int .i64 sd, .slice ao np cp, .slice bo nc cq] 49 ∧ Below w.heap.size w X ∧ Blk X (w.heap.size + 1) #[.int .i64 0, .slice none 0 0] 53 ∧ X.heap.size = w.heap.size + 1 + 1) := by rw [hX]; exact ⟨(Blk.new rfl).alloc _, ((Below.refl _ _).alloc (Nat.le_refl _) _).alloc (by simp) _, Blk.new (by simp), by simp⟩
  have hX0 : w.heap.size < X.heap.size := BX.out.1.lt
  have HM : ∀ W, Below X.heap.size X W → Hid (Me W (.slice ao np cp) (.slice bo nc cq) np ph nc C) := fun W hb => h.later (BX.out.2.1.trans (hb.mono (Nat.le_of_lt hX0)))
  clear h
  have x0 := BX.out.1.cell (j := 0) rfl
  have x1 := BX.out.1.cell (j := 1) rfl
  have x2 := BX.out.1.cell (j := 2) rfl
  have HXX : ∀ W, Below X.heap.size X W → Hid (RdRow W (.slice va n vc) n x) := fun W hb => hx.later (BX.out.2.1.trans (hb.mono (Nat.le_of_lt hX0)))
  clear hx
  obtain ⟨c0, hc0⟩ : ∃ c0, c0 = Rm.mfault sd np ph nc C := ⟨_, rfl⟩
  have HCC : Hid (c0 = Rm.mfault sd np ph nc C ∧ c = fcode c0 n sd) := by rw [← hc0] at hc; exact ⟨hc0, hc⟩
  clear hc hc0
  go_enter Try.func36, Try.ntmps36
  go_wp2_with fail
  rw [← hX]
  clear hX
  refine (iMf_any (HM _ (Below.refl _ _)).out hp hn).mono ?_
  rintro e w1 ⟨rfl, hb1⟩
  rw [← HCC.out.1]
  clear x0 x1 x2
  by_cases h0 : c0 = 0
  · have hok := Rm.mfault_ok (HCC.out.1.symm.trans h0)
    have HC0 : Hid (c0 = 0) := h0
    have hp24 : np ≤ 24 := by omega
    have hp0 : 0 < np := by omega
    have hc600 : nc ≤ 600 := by omega
    have HFT : Hid ((np : Int) = sd ∧ Rm.fitsB (np : Int) C nc = true) := ⟨hok.2.2.2.1, by rw [hok.2.2.2.1]; exact hok.2.2.2.2⟩
    clear hok
    rw [HC0.out]
    clear h0
    by_cases hs : (n : Int) = sd
    · have hne : (((n : Nat) : Int) != sd) = false := by rw [hs]; simp
      have HCZ : Hid (c = 0) := by show c = 0; rw [HCC.out.2, HC0.out]; simp [fcode, hs]
      obtain rfl : n = np := by have := HFT.out.1; omega
      clear hs
      have hB := BX.out.1.old hb1
      have y0 := hB.cell (j := 0) rfl
      have y1 := hB.cell (j := 1) rfl
      have y2 := hB.cell (j := 2) rfl
      have hl := hB.lt
      clear hB
      have HB1 : Hid (Below X.heap.size X w1) := hb1
      clear hb1
      obtain ⟨lb, lo, lc, eva, hlx⟩ := (HXX _ HB1.out).out.get hp0
      simp only [Value.slice.injEq] at eva
      obtain ⟨rfl, _, rfl⟩ := eva
      have QL : ∀ W, Below w1.heap.size w1 W → Hid (∀ i, i < n → W.cell? ⟨lb, lo + i, none⟩ = some (.int .i64 (x i))) := fun W hb i hi => (hb.cell (World.block_lt_of_cell? _ _ (hlx i hi))).trans (hlx i hi)
      have QM : ∀ W, Below w1.heap.size w1 W → Hid (Me W (.slice ao n cp) (.slice bo nc cq) n ph nc C) := fun W hb => HM _ (HB1.out.trans (hb.mono HB1.out.size))
      have q0 : ∀ W, Below w1.heap.size w1 W → W.cell? ⟨w.heap.size, 0, none⟩ = some (.int .i64 sd) := fun W h => ((BX.out.1.old HB1.out).old h).cell (j := 0) rfl
      have q1 : ∀ W, Below w1.heap.size w1 W → W.cell? ⟨w.heap.size, 1, none⟩ = some (.slice ao n cp) := fun W h => ((BX.out.1.old HB1.out).old h).cell (j := 1) rfl
      have q2 : ∀ W, Below w1.heap.size w1 W → W.cell? ⟨w.heap.size, 2, none⟩ = some (.slice bo nc cq) := fun W h => ((BX.out.1.old HB1.out).old h).cell (j := 2) rfl
      have hB0 : Below w1.heap.size w1 w1 := Below.refl _ _
      clear hlx HM HXX
      go_upto_region 6 with fail
      go_region_held3 (fun W => Below w1.heap.size w1 W) (go_grown) (first | (go_at_call 74; refine Calls.mono (cols_any _ 0 1 n _ (fun _ => (lb, lo, vc)) (fun _ j => x j) _ (shp_oneD (QL w1 hB0).out _) (by omega) (by omega) hp0 (by omega)) ?_; rintro e w2 ⟨m1, rfl, hm1, hb2, _⟩; have hR1 : Below w1.heap.size w1 w2 := box_step (by go_grown) hb2 (Nat.le_refl _)) | (go_at_call 73; refine Calls.mono (lights_any (QM _ (by go_grown)).out hm1.rd hp0 (by omega) (by omega) (by omega) hc600 HFT.out.2) ?_; rintro e w3 ⟨m2, rfl, hm2, hb3⟩; have hR2 : Below w1.heap.size w1 w3 := box_step hR1 hb3 (Nat.le_refl _)))
      have z23 : w1.heap.size ≤ w2.heap.size := hR1.size
      have H3 : Hid (Mat w2.heap.size w3.heap.size w3 m2 n (fun _ => 1) (fun i t => Rm.fire ph C (fun r => (fun r _ => x r : Rm.Mx) r t) nc i) ∧ Below X.heap.size X w3) := ⟨hm2, HB1.out.trans (hR2.mono HB1.out.size)⟩
      have zP : X.heap.size ≤ w1.heap.size := HB1.out.size
      clear y0 y1 y2 hl
      clear hm1 hb2 hR1 hm2 hb3 hR2 QL QM q0 q1 q2 hB0
      go_wp2_with fail
      refine (cols_any m2.b 0 n 1 m2.cap _ _ w3 H3.out.1.shp hp0 (by omega) (by omega) (by omega)).mono ?_
      rintro e w4 ⟨m3, rfl, hm3, hb4, hos⟩
      have HB4 : Hid (Below X.heap.size X w4) := H3.out.2.trans (hb4.mono H3.out.2.size)
      have z34 : X.heap.size ≤ w3.heap.size := H3.out.2.size
      have HSG : Hid (Seg w4 (m3.bs 0) 2 0 n (fun i => .int .i64 (Rm.fire ph C x nc i)) ∧ w3.heap.size ≤ m3.bs 0) := by
        have := hm3.row 0 (by omega)
        rw [hos] at this
        exact ⟨this, hm3.rlo 0 (by omega)⟩
      have g1 : w4.cell? ⟨m3.b, 0, none⟩ = some (.slice (some ⟨m3.bs 0, 0, none⟩) n (m3.cs 0)) := by have := hm3.cellRow (i := 0) (by omega); rw [hos] at this; exact this
      clear hm3 hb4 hos H3
      have hB := BX.out.1.old HB4.out
      have y0 := hB.cell (j := 0) rfl
      have y1 := hB.cell (j := 1) rfl
      have y2 := hB.cell (j := 2) rfl
      have hl := hB.lt
      clear hB
      have hR := BX.out.2.2.1.old HB4.out
      have HR : Hid (Blk w4 (w.heap.size + 1) #[.int .i64 0, .slice none 0 0] 53) := hR
      have r0 := hR.cell (j := 0) rfl
      have r1 := hR.cell (j := 1) rfl
      have rf := hR.frozen
      have rl := hR.lt
      clear hR
      go_wp2
      refine bodyPost_ret (res_of (cs := #[.int .i64 0, .slice (some ⟨m3.bs 0, 0, none⟩) n (m3.cs 0)]) Try.results36 rfl ((HR.out.set 0 _ rfl).set 1 _ rfl) Try.underlying53 (by kernel_rfl)) rfl ⟨_, by rw [HCZ.out], ?_, ?_⟩
      · have hx := BX.out.2.2.2
        have hg := HSG.out.2
        exact ownL_two HCZ.out HSG.out.1 (by omega) (by omega) _ _
      · exact ((BX.out.2.1.trans (HB4.out.mono (Nat.le_of_lt hX0))).setCell (by simp) _).setCell (by simp) _
    · have hne : (((n : Nat) : Int) != sd) = true := by rw [bne_iff_ne]; exact hs
      have HCZ : Hid (c = 1) := by show c = 1; rw [HCC.out.2, HC0.out]; simp [fcode, hs]
      clear hs
      have hB := BX.out.1.old hb1
      have y0 := hB.cell (j := 0) rfl
      have y1 := hB.cell (j := 1) rfl
      have y2 := hB.cell (j := 2) rfl
      have hl := hB.lt
      clear hB
      have hR := BX.out.2.2.1.old hb1
      have HR : Hid (Blk w1 (w.heap.size + 1) #[.int .i64 0, .slice none 0 0] 53) := hR
      have r0 := hR.cell (j := 0) rfl
      have r1 := hR.cell (j := 1) rfl
      have rf := hR.frozen
      have rl := hR.lt
      clear hR
      have HBW : Hid (Below w.heap.size w w1) := BX.out.2.1.trans (hb1.mono (Nat.le_of_lt hX0))
      clear hb1 HM HXX
      go_wp2
      refine bodyPost_ret (res_of (cs := #[.int .i64 1, .slice none 0 0]) Try.results36 rfl ((HR.out.set 0 _ rfl).set 1 _ rfl) Try.underlying53 (by kernel_rfl)) rfl ⟨_, by rw [HCZ.out], Or.inl ⟨by rw [HCZ.out]; omega, rfl⟩, ?_⟩
      exact (HBW.out.setCell (by simp) _).setCell (by simp) _
  · have h1 : (c0 != 0) = true := by rw [bne_iff_ne]; exact h0
    have HCZ : Hid (c = c0 ∧ c0 ≠ 0) := by refine ⟨?_, h0⟩; rw [HCC.out.2]; simp [fcode, h0]
    clear h0
    have hB := BX.out.1.old hb1
    have y0 := hB.cell (j := 0) rfl
    have y1 := hB.cell (j := 1) rfl
    have y2 := hB.cell (j := 2) rfl
    have hl := hB.lt
    clear hB
    have hR := BX.out.2.2.1.old hb1
    have HR : Hid (Blk w1 (w.heap.size + 1) #[.int .i64 0, .slice none 0 0] 53) := hR
    have r0 := hR.cell (j := 0) rfl
    have r1 := hR.cell (j := 1) rfl
    have rf := hR.frozen
    have rl := hR.lt
    clear hR
    have HBW : Hid (Below w.heap.size w w1) := BX.out.2.1.trans (hb1.mono (Nat.le_of_lt hX0))
    clear hb1 HM HXX
    go_wp2
    refine bodyPost_ret (res_of (cs := #[.int .i64 c0, .slice none 0 0]) Try.results36 rfl ((HR.out.set 0 _ rfl).set 1 _ rfl) Try.underlying53 (by kernel_rfl)) rfl ⟨_, by rw [HCZ.out.1], Or.inl ⟨by rw [HCZ.out.1]; exact HCZ.out.2, rfl⟩, ?_⟩
    exact (HBW.out.setCell (by simp) _).setCell (by simp) _
end Go.Proofs.Ytboppklcmdfphaa
