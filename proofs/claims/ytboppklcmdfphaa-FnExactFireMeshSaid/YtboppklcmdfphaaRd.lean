/- ReadMesh of both packages: contracts. -/
import Derived.Test.YtboppklcmdfphaaSr
import Derived.Test.YtboppklcmdfphaaLb
import Derived.Test.YtboppklcmdfphaaRw
namespace Go.Proofs.Ytboppklcmdfphaa
open Go.RowKit
set_option linter.unusedVariables false
set_option linter.unusedSimpArgs false
/-- A matrix beside two stores into another block. -/
theorem mat_two {lo hi : Nat} {W : World} {m : Lie} {n : Nat} {L : Nat → Nat} {F : Rm.Mx} (h : Mat lo hi W m n L F) {r : Nat} (hr : r < lo) (x y : Value) : Mat lo hi ((W.setCell ⟨r, 0, none⟩ x).setCell ⟨r, 1, none⟩ y) m n L F :=
  h.keep fun k h1 _ => by rw [Below.heap_setCell _ _ _ _ (by show k ≠ r; omega), Below.heap_setCell _ _ _ _ (by show k ≠ r; omega)]
set_option maxRecDepth 20000 in
set_option maxHeartbeats 1600000 in
theorem sRM_any {w : World} {ao bo : Option Addr} {np nc cp cq : Nat} {sd : Int} {ph : Nat → Int} {C : Nat → Ce} (h : Me w (.slice ao np cp) (.slice bo nc cq) np ph nc C) (hp : np ≤ 1048576) (hn : nc ≤ 1048576) {c : Int} (hc : c = Rm.mfault sd np ph nc C) :
    Calls Try.prog 41 #[.agg #[.int .i64 sd, .slice ao np cp, .slice bo nc cq]] w fun e w' => ∃ v, e = .returned (.agg #[.int .i64 c, v]) ∧ OwnR w.heap.size w'.heap.size w' c v np (rdm ph C nc) ∧ Below w.heap.size w w' := by
  obtain ⟨X, hX⟩ : ∃ X, X = (w.alloc (.cells #[.int .i64 sd, .slice ao np cp, .slice bo nc cq] 49)).alloc (.cells #[.int .i64 0, .slice none 0 0] 25) := ⟨_, rfl⟩
  have BX : Hid (Blk X w.heap.size #[.int .i64 sd, .slice ao np cp, .slice bo nc cq] 49 ∧ Below w.heap.size w X ∧ Blk X (w.heap.size + 1) #[.int .i64 0, .slice none 0 0] 25 ∧ X.heap.size = w.heap.size + 1 + 1) := by rw [hX]; exact ⟨(Blk.new rfl).alloc _, ((Below.refl _ _).alloc (Nat.le_refl _) _).alloc (by simp) _, Blk.new (by simp), by simp⟩
  have hX0 : w.heap.size < X.heap.size := BX.out.1.lt
  have HM : ∀ W, Below X.heap.size X W → Hid (Me W (.slice ao np cp) (.slice bo nc cq) np ph nc C) := fun W hb => h.later (BX.out.2.1.trans (hb.mono (Nat.le_of_lt hX0)))
  clear h
  have x0 := BX.out.1.cell (j := 0) rfl
  have x1 := BX.out.1.cell (j := 1) rfl
  have x2 := BX.out.1.cell (j := 2) rfl
  have HCC : Hid (c = Rm.mfault sd np ph nc C) := hc
  clear hc
  go_enter Try.func41, Try.ntmps41
  go_wp2_with fail
  rw [← hX]
  clear hX
  refine (sMf_any (HM _ (Below.refl _ _)).out hp hn).mono ?_
  rintro e w1 ⟨rfl, hb1⟩
  rw [← HCC.out]
  clear x0 x1 x2
  by_cases h0 : c = 0
  · have HC0 : Hid (c = 0) := h0
    have hok := Rm.mfault_ok (HCC.out.symm.trans h0)
    have hp24 : np ≤ 24 := by omega
    have hp0 : 0 < np := by omega
    have hc600 : nc ≤ 600 := by omega
    have HFT : Hid ((np : Int) = sd ∧ Rm.fitsB (np : Int) C nc = true) := ⟨hok.2.2.2.1, by rw [hok.2.2.2.1]; exact hok.2.2.2.2⟩
    clear hok
    rw [HC0.out]
    clear h0
    have hB := BX.out.1.old hb1
    have y0 := hB.cell (j := 0) rfl
    have y1 := hB.cell (j := 1) rfl
    have y2 := hB.cell (j := 2) rfl
    have hl := hB.lt
    clear hB
    have HB1 : Hid (Below X.heap.size X w1) := hb1
    clear hb1
    go_wp2_with fail
    refine (sRead_any (HM _ HB1.out).out hp0 hp24 hc600 HFT.out.1 HFT.out.2).mono ?_
    rintro e w2 ⟨m, rfl, hm, hb2⟩
    clear y0 y1 y2 hl
    have HB2 : Hid (Below X.heap.size X w2) := HB1.out.trans (hb2.mono HB1.out.size)
    have zP : X.heap.size ≤ w1.heap.size := HB1.out.size
    have HMM : Hid (Mat w1.heap.size w2.heap.size w2 m np (fun _ => np) (rdm ph C nc)) := hm
    clear hm hb2 HM
    have hB := BX.out.1.old HB2.out
    have y0 := hB.cell (j := 0) rfl
    have y1 := hB.cell (j := 1) rfl
    have y2 := hB.cell (j := 2) rfl
    have hl := hB.lt
    clear hB
    have hR := BX.out.2.2.1.old HB2.out
    have HR : Hid (Blk w2 (w.heap.size + 1) #[.int .i64 0, .slice none 0 0] 25) := hR
    have r0 := hR.cell (j := 0) rfl
    have r1 := hR.cell (j := 1) rfl
    have rf := hR.frozen
    have rl := hR.lt
    clear hR
    go_wp2
    refine bodyPost_ret (res_of (cs := #[.int .i64 0, .slice (some ⟨m.b, 0, none⟩) np m.cap]) Try.results41 rfl ((HR.out.set 0 _ rfl).set 1 _ rfl) Try.underlying25 (by kernel_rfl)) rfl ⟨_, by rw [HC0.out], ?_, ?_⟩
    · have hx := BX.out.2.2.2
      exact Or.inr ⟨HC0.out, m, rfl, (mat_two HMM.out (by omega) _ _).wide (by omega) (by simp)⟩
    · exact ((BX.out.2.1.trans (HB2.out.mono (Nat.le_of_lt hX0))).setCell (by simp) _).setCell (by simp) _
  · have h1 : (c != 0) = true := by rw [bne_iff_ne]; exact h0
    have HC0 : Hid (c ≠ 0) := h0
    clear h0
    have hB := BX.out.1.old hb1
    have y0 := hB.cell (j := 0) rfl
    have y1 := hB.cell (j := 1) rfl
    have y2 := hB.cell (j := 2) rfl
    have hl := hB.lt
    clear hB
    have hR := BX.out.2.2.1.old hb1
    have HR : Hid (Blk w1 (w.heap.size + 1) #[.int .i64 0, .slice none 0 0] 25) := hR
    have r0 := hR.cell (j := 0) rfl
    have r1 := hR.cell (j := 1) rfl
    have rf := hR.frozen
    have rl := hR.lt
    clear hR
    have HBW : Hid (Below w.heap.size w w1) := BX.out.2.1.trans (hb1.mono (Nat.le_of_lt hX0))
    clear hb1 HM
    go_wp2
    refine bodyPost_ret (res_of (cs := #[.int .i64 c, .slice none 0 0]) Try.results41 rfl ((HR.out.set 0 _ rfl).set 1 _ rfl) Try.underlying25 (by kernel_rfl)) rfl ⟨_, rfl, Or.inl ⟨HC0.out, rfl⟩, ?_⟩
    exact (HBW.out.setCell (by simp) _).setCell (by simp) _
set_option maxRecDepth 20000 in
set_option maxHeartbeats 1600000 in
theorem iRM_any {w : World} {ao bo : Option Addr} {np nc cp cq : Nat} {sd : Int} {ph : Nat → Int} {C : Nat → Ce} (h : Me w (.slice ao np cp) (.slice bo nc cq) np ph nc C) (hp : np ≤ 1048576) (hn : nc ≤ 1048576) {c : Int} (hc : c = Rm.mfault sd np ph nc C) :
    Calls Try.prog 42 #[.agg #[.int .i64 sd, .slice ao np cp, .slice bo nc cq]] w fun e w' => ∃ v, e = .returned (.agg #[.int .i64 c, v]) ∧ OwnR w.heap.size w'.heap.size w' c v np (rdm ph C nc) ∧ Below w.heap.size w w' := by
  obtain ⟨X, hX⟩ : ∃ X, X = (w.alloc (.cells #[.int .i64 sd, .slice ao np cp, .slice bo nc cq] 49)).alloc (.cells #[.int .i64 0, .slice none 0 0] 25) := ⟨_, rfl⟩
  have BX : Hid (Blk X w.heap.size #[.int .i64 sd, .slice ao np cp, .slice bo nc cq] 49 ∧ Below w.heap.size w X ∧ Blk X (w.heap.size + 1) #[.int .i64 0, .slice none 0 0] 25 ∧ X.heap.size = w.heap.size + 1 + 1) := by rw [hX]; exact ⟨(Blk.new rfl).alloc _, ((Below.refl _ _).alloc (Nat.le_refl _) _).alloc (by simp) _, Blk.new (by simp), by simp⟩
  have hX0 : w.heap.size < X.heap.size := BX.out.1.lt
  have HM : ∀ W, Below X.heap.size X W → Hid (Me W (.slice ao np cp) (.slice bo nc cq) np ph nc C) := fun W hb => h.later (BX.out.2.1.trans (hb.mono (Nat.le_of_lt hX0)))
  clear h
  have x0 := BX.out.1.cell (j := 0) rfl
  have x1 := BX.out.1.cell (j := 1) rfl
  have x2 := BX.out.1.cell (j := 2) rfl
  have HCC : Hid (c = Rm.mfault sd np ph nc C) := hc
  clear hc
  go_enter Try.func42, Try.ntmps42
  go_wp2_with fail
  rw [← hX]
  clear hX
  refine (iMf_any (HM _ (Below.refl _ _)).out hp hn).mono ?_
  rintro e w1 ⟨rfl, hb1⟩
  rw [← HCC.out]
  clear x0 x1 x2
  by_cases h0 : c = 0
  · have HC0 : Hid (c = 0) := h0
    have hok := Rm.mfault_ok (HCC.out.symm.trans h0)
    have hp24 : np ≤ 24 := by omega
    have hp0 : 0 < np := by omega
    have hc600 : nc ≤ 600 := by omega
    have HFT : Hid ((np : Int) = sd ∧ Rm.fitsB (np : Int) C nc = true) := ⟨hok.2.2.2.1, by rw [hok.2.2.2.1]; exact hok.2.2.2.2⟩
    clear hok
    rw [HC0.out]
    clear h0
    have hB := BX.out.1.old hb1
    have y0 := hB.cell (j := 0) rfl
    have y1 := hB.cell (j := 1) rfl
    have y2 := hB.cell (j := 2) rfl
    have hl := hB.lt
    clear hB
    have HB1 : Hid (Below X.heap.size X w1) := hb1
    clear hb1
    go_wp2_with fail
    refine (zeroRows_any np np _ (by omega) (by omega)).mono ?_
    rintro e w2 ⟨rfl, hz, hb2⟩
    obtain ⟨m, hm⟩ : ∃ m : Lie, m = newLie w1.heap.size np (fun _ => np) := ⟨_, rfl⟩
    rw [← hm] at hz
    have EM : Hid (w1.heap.size = m.b ∧ np = m.cap ∧ ∀ i, m.os i = 0) := by show w1.heap.size = m.b ∧ np = m.cap ∧ ∀ i, m.os i = 0; rw [hm]; exact ⟨rfl, rfl, fun _ => rfl⟩
    clear hm
    have z12 : w1.heap.size ≤ w2.heap.size := hb2.size
    have zX1 : X.heap.size ≤ w1.heap.size := HB1.out.size
    have H2 : Hid (Mat w1.heap.size w2.heap.size w2 m np (fun _ => np) (fun i j => if i < 0 then unt j i else 0) ∧ Below X.heap.size X w2) := ⟨hz.congr (fun i j _ _ => by simp), HB1.out.trans (hb2.mono zX1)⟩
    clear y0 y1 y2 hl
    clear hz hb2
    go_wp2_with fail
    go_loopw [21] (fun s wr => ∃ i : Nat, i ≤ np ∧ s = .int .i64 i ∧ Hid (Mat w1.heap.size w2.heap.size wr m np (fun _ => np) (fun r j => if r < i then unt j r else 0) ∧ Below X.heap.size X wr ∧ wr.heap.size = w2.heap.size)) (fun s _ => np - (intOf s).toNat)
    case atStart => exact ⟨0, Nat.zero_le _, rfl, H2.out.1, H2.out.2, rfl⟩
    case round =>
      obtain ⟨i, hi, rfl, HS⟩ := hrel
      by_cases hin : i < np
      · have g1 : wr.cell? ⟨w1.heap.size, i, none⟩ = some (.slice (some ⟨m.bs i, 0, none⟩) np (m.cs i)) := by have := HS.out.1.cellRow hin; rw [← EM.out.1, EM.out.2.2] at this; exact this
        have g2 : wr.cell? ⟨m.bs i, i, none⟩ = some (.int .i64 0) := by have := HS.out.1.cellAt hin hin; rw [EM.out.2.2, Nat.zero_add] at this; simpa using this
        have g3 : wr.frozen? ⟨m.bs i, i, none⟩ = false := (HS.out.1.row i hin).frozen _
        have HN : Hid (Mat w1.heap.size w2.heap.size (wr.setCell ⟨m.bs i, i, none⟩ (.int .i64 1)) m np (fun _ => np) (fun r j => if r < i + 1 then unt j r else 0) ∧ Below X.heap.size X (wr.setCell ⟨m.bs i, i, none⟩ (.int .i64 1)) ∧ (wr.setCell ⟨m.bs i, i, none⟩ (.int .i64 1)).heap.size = w2.heap.size) := by
          have h0 := HS.out.1.set hin hin 1
          rw [EM.out.2.2, Nat.zero_add] at h0
          refine ⟨h0.congr fun r j _ _ => ?_, HS.out.2.1.setCell (p := ⟨m.bs i, i, none⟩) (by show X.heap.size ≤ m.bs i; have := HS.out.1.rlo i hin; omega) _, by rw [World.size_setCell]; exact HS.out.2.2⟩
          unfold unt
          by_cases e : r = i
          · subst e
            by_cases e2 : j = r
            · simp [e2]
            · have e3 : ¬ r = j := fun h => e2 h.symm
              simp [e2, e3]
          · by_cases e2 : r < i
            · simp [e, e2, Nat.lt_succ_of_lt e2]
            · have e3 : ¬ r < i + 1 := by omega
              simp [e, e2, e3]
        clear HS
        go_wp2
        exact ⟨⟨i + 1, by omega, by simp, HN⟩, by simp [intOf]; omega⟩
      · obtain rfl : i = np := by omega
        obtain ⟨Z, hZ⟩ : ∃ Z, Z = wr := ⟨_, rfl⟩
        subst hZ
        have HZ : Hid (RdMat Z (.slice (some ⟨w1.heap.size, 0, none⟩) i i) i (fun _ => i) (fun r j => unt j r) ∧ Below X.heap.size X Z) := by
          have h0 := (HS.out.1.congr (G := fun r j => unt j r) (fun r j hr _ => by simp [hr])).rd
          unfold Lie.val at h0
          rw [← EM.out.1, ← EM.out.2.1] at h0
          exact ⟨h0, HS.out.2.1⟩
        clear HS H2
        have hB := BX.out.1.old HZ.out.2
        have y0 := hB.cell (j := 0) rfl
        have y1 := hB.cell (j := 1) rfl
        have y2 := hB.cell (j := 2) rfl
        have hl := hB.lt
        clear hB
        go_wp2_with fail
        refine (lights_any (HM _ HZ.out.2).out HZ.out.1 hp0 (by omega) hp0 (by omega) hc600 HFT.out.2).mono ?_
        rintro e w3 ⟨m', rfl, hm, hb2⟩
        clear y0 y1 y2 hl
        have HB2 : Hid (Below X.heap.size X w3) := HZ.out.2.trans (hb2.mono HZ.out.2.size)
        have zP : X.heap.size ≤ Z.heap.size := HZ.out.2.size
        have HMM : Hid (Mat Z.heap.size w3.heap.size w3 m' i (fun _ => i) (rdm ph C nc)) := hm
        clear hm hb2 HM
        have hB := BX.out.1.old HB2.out
        have y0 := hB.cell (j := 0) rfl
        have y1 := hB.cell (j := 1) rfl
        have y2 := hB.cell (j := 2) rfl
        have hl := hB.lt
        clear hB
        have hR := BX.out.2.2.1.old HB2.out
        have HR : Hid (Blk w3 (w.heap.size + 1) #[.int .i64 0, .slice none 0 0] 25) := hR
        have r0 := hR.cell (j := 0) rfl
        have r1 := hR.cell (j := 1) rfl
        have rf := hR.frozen
        have rl := hR.lt
        clear hR
        go_wp2
        refine bodyPost_ret (res_of (cs := #[.int .i64 0, .slice (some ⟨m'.b, 0, none⟩) i m'.cap]) Try.results42 rfl ((HR.out.set 0 _ rfl).set 1 _ rfl) Try.underlying25 (by kernel_rfl)) rfl ⟨_, by rw [HC0.out], ?_, ?_⟩
        · have hx := BX.out.2.2.2
          exact Or.inr ⟨HC0.out, m', rfl, (mat_two HMM.out (by omega) _ _).wide (by omega) (by simp)⟩
        · exact ((BX.out.2.1.trans (HB2.out.mono (Nat.le_of_lt hX0))).setCell (by simp) _).setCell (by simp) _
  · have h1 : (c != 0) = true := by rw [bne_iff_ne]; exact h0
    have HC0 : Hid (c ≠ 0) := h0
    clear h0
    have hB := BX.out.1.old hb1
    have y0 := hB.cell (j := 0) rfl
    have y1 := hB.cell (j := 1) rfl
    have y2 := hB.cell (j := 2) rfl
    have hl := hB.lt
    clear hB
    have hR := BX.out.2.2.1.old hb1
    have HR : Hid (Blk w1 (w.heap.size + 1) #[.int .i64 0, .slice none 0 0] 25) := hR
    have r0 := hR.cell (j := 0) rfl
    have r1 := hR.cell (j := 1) rfl
    have rf := hR.frozen
    have rl := hR.lt
    clear hR
    have HBW : Hid (Below w.heap.size w w1) := BX.out.2.1.trans (hb1.mono (Nat.le_of_lt hX0))
    clear hb1 HM
    go_wp2
    refine bodyPost_ret (res_of (cs := #[.int .i64 c, .slice none 0 0]) Try.results42 rfl ((HR.out.set 0 _ rfl).set 1 _ rfl) Try.underlying25 (by kernel_rfl)) rfl ⟨_, rfl, Or.inl ⟨HC0.out, rfl⟩, ?_⟩
    exact (HBW.out.setCell (by simp) _).setCell (by simp) _
end Go.Proofs.Ytboppklcmdfphaa
