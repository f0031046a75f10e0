/- The net with one fibre as long as may be, in both packages: contracts. -/
import Derived.Test.YthdiodibcebbbaaCa
import Derived.Test.YthdiodibcebbbaaNe
import Derived.Test.YthdiodibcebbbaaRo
import Derived.Test.YthdiodibcebbbaaRw
namespace Go.Proofs.Ythdiodibcebbbaa
open Go.RowKit
set_option linter.unusedVariables false
set_option linter.unusedSimpArgs false
/-- The fibres, the one of place v as long as may be, where the net has no fault. -/
def cutF (nodes slots : Int) (nf : Nat) (F : Nat → Fb) (v : Int) : Nat → Fb := fun i => if Nt.nfault nodes slots nf F = 0 ∧ Nt.isFi nf v = true ∧ (i : Int) = v then ⟨(F i).a, (F i).b, 100000⟩ else F i
theorem cutF_no {nodes slots : Int} {nf : Nat} {F : Nat → Fb} {v : Int} (h : Nt.nfault nodes slots nf F ≠ 0 ∨ Nt.isFi nf v = false) : cutF nodes slots nf F v = F := by
  funext i
  unfold cutF
  rw [if_neg]
  rintro ⟨h1, h2, _⟩
  rcases h with h | h
  · exact h h1
  · rw [h] at h2; cases h2
theorem seg_cut {w : World} {g nf k : Nat} {nodes slots : Int} {F : Nat → Fb} (h : SegV w g 112 nf 3 (fun i j => fcell (F i) j)) (hk : k < nf) (h0 : Nt.nfault nodes slots nf F = 0) (h1 : Nt.isFi nf (k : Int) = true) :
    SegV (w.setCell ⟨g, k * 3 + 2, none⟩ (.int .i64 100000)) g 112 nf 3 (fun i j => fcell (cutF nodes slots nf F k i) j) := by
  refine (SegV.set h hk (show 2 < 3 by omega) (.int .i64 100000)).congr fun i hi j hj => ?_
  by_cases e : i = k
  · subst e
    have e1 : cutF nodes slots nf F i i = ⟨(F i).a, (F i).b, 100000⟩ := by unfold cutF; rw [if_pos ⟨h0, h1, rfl⟩]
    rw [e1]
    match j, hj with
    | 0, _ => simp [fcell]
    | 1, _ => simp [fcell]
    | 2, _ => simp [fcell]
  · have e1 : cutF nodes slots nf F k i = F i := by unfold cutF; rw [if_neg (by rintro ⟨_, _, h⟩; exact e (by omega))]
    rw [e1]
    simp [e]
theorem fi_nat {nf : Nat} {v : Int} (h : Nt.isFi nf v = true) : ∃ k : Nat, v = k ∧ k < nf := by
  simp only [Nt.isFi, Bool.and_eq_true, decide_eq_true_eq] at h
  exact ⟨v.toNat, by omega, by omega⟩
set_option maxRecDepth 20000 in
set_option maxHeartbeats 3200000 in
theorem sCut_any {w : World} {b off nf cp : Nat} {nodes slots : Int} {F : Nat → Fb} (v : Int) (h : Rf w (.slice (some ⟨b, off, none⟩) nf cp) nf F) (hn : nf ≤ 1048576) (hcp : nf ≤ cp) :
    Calls Try.prog 31 #[.agg #[.int .i64 nodes, .int .i64 slots, .slice (some ⟨b, off, none⟩) nf cp], .int .i64 v] w fun e w' => ∃ g cap, e = .returned (.agg #[.int .i64 nodes, .int .i64 slots, .slice (some ⟨g, 0, none⟩) nf cap]) ∧ OwB w.heap.size w'.heap.size w' g nf (cutF nodes slots nf F v) ∧ Below w.heap.size w w' := by
  have H : ∀ W, Below w.heap.size w W → Hid (∀ i, i < nf → ∀ j, j < 3 → W.cell? ⟨b, off + i * 3 + j, none⟩ = some (fcell (F i) j)) := by
    intro W hb i hi j hj
    obtain ⟨b2, off2, e, hc⟩ := h.at hi
    simp only [Option.some.injEq, Addr.mk.injEq] at e
    obtain ⟨rfl, rfl, _⟩ := e
    exact kold hb (hc j hj)
  have HN : Hid (nf ≤ cp) := hcp
  clear h hcp
  have hnI : (nf : Int) ≤ 1048576 := by omega
  obtain ⟨c, hc⟩ : ∃ c, c = Nt.nfault nodes slots nf F := ⟨_, rfl⟩
  have HC : Hid (c = Nt.nfault nodes slots nf F) := hc
  clear hc
  go_enter Try.func31, Try.ntmps31
  go_upto_region 2 with fail
  obtain ⟨Y, hY⟩ : ∃ Y, Y = (((w.alloc (.cells #[.int .i64 nodes, .int .i64 slots, .slice (some ⟨b, off, none⟩) nf cp] 32)).alloc (.cells #[.int .i64 0, .int .i64 0, .slice none 0 0] 32)).alloc (.cells #[.int .i64 nodes, .int .i64 slots, .slice (some ⟨b, off, none⟩) nf cp] 32)) := ⟨_, rfl⟩
  have BY : Hid (Blk Y w.heap.size #[.int .i64 nodes, .int .i64 slots, .slice (some ⟨b, off, none⟩) nf cp] 32 ∧ Blk Y (w.heap.size + 1) #[.int .i64 0, .int .i64 0, .slice none 0 0] 32 ∧ Blk Y (w.heap.size + 1 + 1) #[.int .i64 nodes, .int .i64 slots, .slice (some ⟨b, off, none⟩) nf cp] 32 ∧ Below w.heap.size w Y ∧ w.heap.size + 3 ≤ Y.heap.size) := by
    rw [hY]
    exact ⟨((Blk.new rfl).alloc _).alloc _, (Blk.new (by simp)).alloc _, Blk.new (by simp), (((Below.refl _ _).alloc (Nat.le_refl _) _).alloc (by simp) _).alloc (by simp; omega) _, by simp⟩
  rw [← hY]
  clear hY
  have x2 := BY.out.1.cell (j := 2) (v := .slice (some ⟨b, off, none⟩) nf cp) rfl
  have hl1 := BY.out.1.lt
  go_upto_region 3 with (first | (at_builtin; refine app_fbs rfl (.tmp 7) (.tmp 9) rfl _ F nf rfl b off cp rfl (H _ BY.out.2.2.2.1).out (by omega) ?_; intro g cap w1 hcap hg hsg hb1; have y2 := (BY.out.2.2.1.old hb1).cell (j := 2) (v := .slice (some ⟨b, off, none⟩) nf cp) rfl; have yf := (BY.out.2.2.1.old hb1).frozen))
  obtain ⟨W2, hW2⟩ : ∃ W2, W2 = w1.setCell ⟨w.heap.size + 1 + 1, 2, none⟩ (.slice (some ⟨g, 0, none⟩) nf cap) := ⟨_, rfl⟩
  have B2 : Hid (Blk W2 w.heap.size #[.int .i64 nodes, .int .i64 slots, .slice (some ⟨b, off, none⟩) nf cp] 32 ∧ Blk W2 (w.heap.size + 1) #[.int .i64 0, .int .i64 0, .slice none 0 0] 32 ∧ Blk W2 (w.heap.size + 1 + 1) #[.int .i64 nodes, .int .i64 slots, .slice (some ⟨g, 0, none⟩) nf cap] 32 ∧ SegV W2 g 112 nf 3 (fun i j => fcell (F i) j) ∧ Below w.heap.size w W2 ∧ w.heap.size + 3 ≤ W2.heap.size ∧ w.heap.size + 3 ≤ g) := by
    obtain ⟨q1, q2, q3, q4, q5⟩ := BY.out
    have hsz := hb1.size
    rw [hW2]
    exact ⟨(q1.old hb1).setOther (by simp; omega) _, (q2.old hb1).setOther (by simp) _, (q3.old hb1).set 2 _ rfl, hsg.setOther (by omega) _, (q4.trans (hb1.mono q4.size)).setCell (by simp; omega) _, by simp; omega, by omega⟩
  rw [← hW2]
  clear hW2 hsg hb1 hg hcap y2 yf x2 hl1 BY
  have R2 : ∀ W, Below W2.heap.size W2 W → Hid (Blk W w.heap.size #[.int .i64 nodes, .int .i64 slots, .slice (some ⟨b, off, none⟩) nf cp] 32 ∧ Blk W (w.heap.size + 1) #[.int .i64 0, .int .i64 0, .slice none 0 0] 32 ∧ Blk W (w.heap.size + 1 + 1) #[.int .i64 nodes, .int .i64 slots, .slice (some ⟨g, 0, none⟩) nf cap] 32 ∧ SegV W g 112 nf 3 (fun i j => fcell (F i) j) ∧ Below w.heap.size w W ∧ w.heap.size + 3 ≤ W.heap.size ∧ w.heap.size + 3 ≤ g) := fun W hb => ⟨B2.out.1.old hb, B2.out.2.1.old hb, B2.out.2.2.1.old hb, B2.out.2.2.2.1.below hb, B2.out.2.2.2.2.1.trans (hb.mono B2.out.2.2.2.2.1.size), Nat.le_trans B2.out.2.2.2.2.2.1 hb.size, B2.out.2.2.2.2.2.2⟩
  have CF : ∀ W, Below W2.heap.size W2 W → W.cell? ⟨w.heap.size, 0, none⟩ = some (.int .i64 nodes) ∧ W.cell? ⟨w.heap.size, 1, none⟩ = some (.int .i64 slots) ∧ W.cell? ⟨w.heap.size, 2, none⟩ = some (.slice (some ⟨b, off, none⟩) nf cp) ∧ W.cell? ⟨w.heap.size + 1, 0, none⟩ = some (.int .i64 0) ∧ W.cell? ⟨w.heap.size + 1, 1, none⟩ = some (.int .i64 0) ∧ W.cell? ⟨w.heap.size + 1, 2, none⟩ = some (.slice none 0 0) ∧ (∀ j, W.frozen? ⟨w.heap.size + 1, j, none⟩ = false) ∧ (∀ j, W.frozen? ⟨g, j, none⟩ = false) ∧ w.heap.size < W.heap.size ∧ w.heap.size + 1 < W.heap.size ∧ W.cell? ⟨w.heap.size + 1 + 1, 0, none⟩ = some (.int .i64 nodes) ∧ W.cell? ⟨w.heap.size + 1 + 1, 1, none⟩ = some (.int .i64 slots) ∧ W.cell? ⟨w.heap.size + 1 + 1, 2, none⟩ = some (.slice (some ⟨g, 0, none⟩) nf cap) := fun W hb => by
    obtain ⟨q1, q2, q3, q4, q5, q6, q7⟩ := (R2 W hb).out
    exact ⟨q1.cell rfl, q1.cell rfl, q1.cell rfl, q2.cell rfl, q2.cell rfl, q2.cell rfl, fun j => q2.frozen j, fun j => q4.frozen j, q1.lt, q2.lt, q3.cell rfl, q3.cell rfl, q3.cell rfl⟩
  have hg2 : w.heap.size + 3 ≤ g := B2.out.2.2.2.2.2.2
  have n1 : w.heap.size + 1 ≠ g := by omega
  have n1' : g ≠ w.heap.size + 1 := by omega
  have n2 : w.heap.size ≠ g := by omega
  have n2' : g ≠ w.heap.size := by omega
  have n3 : w.heap.size + 1 + 1 ≠ g ∨ True := Or.inr trivial
  have FIN : ∀ W, Below W2.heap.size W2 W → ∀ E : Nat → Fb, SegV W g 112 nf 3 (fun i j => fcell (E i) j) → Hid (OwB w.heap.size (((W.setCell ⟨w.heap.size + 1, 0, none⟩ (.int .i64 nodes)).setCell ⟨w.heap.size + 1, 1, none⟩ (.int .i64 slots)).setCell ⟨w.heap.size + 1, 2, none⟩ (.slice (some ⟨g, 0, none⟩) nf cap)).heap.size (((W.setCell ⟨w.heap.size + 1, 0, none⟩ (.int .i64 nodes)).setCell ⟨w.heap.size + 1, 1, none⟩ (.int .i64 slots)).setCell ⟨w.heap.size + 1, 2, none⟩ (.slice (some ⟨g, 0, none⟩) nf cap)) g nf E ∧ Below w.heap.size w (((W.setCell ⟨w.heap.size + 1, 0, none⟩ (.int .i64 nodes)).setCell ⟨w.heap.size + 1, 1, none⟩ (.int .i64 slots)).setCell ⟨w.heap.size + 1, 2, none⟩ (.slice (some ⟨g, 0, none⟩) nf cap))) := fun W hb E hE => by
    obtain ⟨q1, q2, q3, q4, q5, q6, q7⟩ := (R2 W hb).out
    have hl := hE.lt
    refine ⟨⟨by omega, by simp; exact hl, ((hE.setOther n1' _).setOther n1' _).setOther n1' _⟩, ((q5.setCell (by simp) _).setCell (by simp) _).setCell (by simp) _⟩
  have FIC : ∀ W, Below W2.heap.size W2 W → ∀ k : Nat, ∀ E : Nat → Fb, SegV (W.setCell ⟨g, k * 3 + 2, none⟩ (.int .i64 100000)) g 112 nf 3 (fun i j => fcell (E i) j) → Hid (OwB w.heap.size ((((W.setCell ⟨g, k * 3 + 2, none⟩ (.int .i64 100000)).setCell ⟨w.heap.size + 1, 0, none⟩ (.int .i64 nodes)).setCell ⟨w.heap.size + 1, 1, none⟩ (.int .i64 slots)).setCell ⟨w.heap.size + 1, 2, none⟩ (.slice (some ⟨g, 0, none⟩) nf cap)).heap.size ((((W.setCell ⟨g, k * 3 + 2, none⟩ (.int .i64 100000)).setCell ⟨w.heap.size + 1, 0, none⟩ (.int .i64 nodes)).setCell ⟨w.heap.size + 1, 1, none⟩ (.int .i64 slots)).setCell ⟨w.heap.size + 1, 2, none⟩ (.slice (some ⟨g, 0, none⟩) nf cap)) g nf E ∧ Below w.heap.size w ((((W.setCell ⟨g, k * 3 + 2, none⟩ (.int .i64 100000)).setCell ⟨w.heap.size + 1, 0, none⟩ (.int .i64 nodes)).setCell ⟨w.heap.size + 1, 1, none⟩ (.int .i64 slots)).setCell ⟨w.heap.size + 1, 2, none⟩ (.slice (some ⟨g, 0, none⟩) nf cap))) := fun W hb k E hE => by
    obtain ⟨q1, q2, q3, q4, q5, q6, q7⟩ := (R2 W hb).out
    have hl := q4.lt
    refine ⟨⟨by omega, by simp; exact hl, ((hE.setOther n1' _).setOther n1' _).setOther n1' _⟩, (((q5.setCell (by simp; omega) _).setCell (by simp) _).setCell (by simp) _).setCell (by simp) _⟩
  have RI : Hid (Rf W2 (.slice (some ⟨b, off, none⟩) nf cp) nf F) := Or.inr ⟨b, off, cp, rfl, (H _ (R2 _ (Below.refl _ _)).out.2.2.2.2.1).out⟩
  clear H HN B2
  obtain ⟨x0, x1, x2, x3, x4, x5, x6, x7, x8, x9, y0, y1, y2⟩ := CF W2 (Below.refl _ _)
  by_cases hz : c = 0
  · have hz1 : (c == 0) = true := by simp [hz]
    cases hi : Nt.isFi nf v with
    | false =>
      have HF : Hid (cutF nodes slots nf F v = F) := cutF_no (Or.inr hi)
      have HI : Hid (Nt.isFi nf v = false) := hi
      clear hz
      go_wp2_with (first | (go_at_call 35; refine (sNf_any RI.out (by omega)).mono ?_; rintro e w3 ⟨rfl, hb3⟩; rw [← HC.out]; clear x0 x1 x2 x3 x4 x5 x6 x7 x8 x9 y0 y1 y2; obtain ⟨x0, x1, x2, x3, x4, x5, x6, x7, x8, x9, y0, y1, y2⟩ := CF w3 hb3) | (go_at_call 75; refine (sFib_any nodes slots v _ nf _ _).mono ?_; rintro e w4 ⟨rfl, hb4⟩; rw [hi]; have hb34 : Below W2.heap.size W2 w4 := box_step hb3 hb4 (Nat.le_refl _); clear x0 x1 x2 x3 x4 x5 x6 x7 x8 x9 y0 y1 y2; obtain ⟨x0, x1, x2, x3, x4, x5, x6, x7, x8, x9, y0, y1, y2⟩ := CF w4 hb34))
      refine bodyPost_ret (v := .agg #[.int .i64 nodes, .int .i64 slots, .slice (some ⟨g, 0, none⟩) nf cap]) (by simp [results, Try.results31, go_sem, x3, x4, x5, n1, n1']) rfl ⟨g, cap, rfl, ?_⟩
      rw [HF.out]
      exact (FIN w4 hb34 F (R2 w4 hb34).out.2.2.2.1).out
    | true =>
      obtain ⟨k, rfl, hk⟩ := fi_nat hi
      have HZ : Hid (Nt.nfault nodes slots nf F = 0 ∧ Nt.isFi nf (k : Int) = true) := ⟨HC.out ▸ hz, hi⟩
      have hkI : (k : Int) < nf := by omega
      have SC : ∀ W, Below W2.heap.size W2 W → W.cell? ⟨g, k * 3 + 2, none⟩ = some (.int .i64 (F k).km) := fun W hb => (R2 W hb).out.2.2.2.1.cell hk (show 2 < 3 by omega)
      clear hz
      go_wp2_with (first | (go_at_call 35; refine (sNf_any RI.out (by omega)).mono ?_; rintro e w3 ⟨rfl, hb3⟩; rw [← HC.out]; clear x0 x1 x2 x3 x4 x5 x6 x7 x8 x9 y0 y1 y2; obtain ⟨x0, x1, x2, x3, x4, x5, x6, x7, x8, x9, y0, y1, y2⟩ := CF w3 hb3) | (go_at_call 75; refine (sFib_any nodes slots (k : Int) _ nf _ _).mono ?_; rintro e w4 ⟨rfl, hb4⟩; rw [hi]; have hb34 : Below W2.heap.size W2 w4 := box_step hb3 hb4 (Nat.le_refl _); clear x0 x1 x2 x3 x4 x5 x6 x7 x8 x9 y0 y1 y2; obtain ⟨x0, x1, x2, x3, x4, x5, x6, x7, x8, x9, y0, y1, y2⟩ := CF w4 hb34; have sc := SC w4 hb34))
      have z0 := ((R2 w4 hb34).out.2.1.setOther (p := ⟨g, k * 3 + 2, none⟩) n1 (.int .i64 100000)).cell (j := 0) (v := .int .i64 0) rfl
      have z1 := ((R2 w4 hb34).out.2.1.setOther (p := ⟨g, k * 3 + 2, none⟩) n1 (.int .i64 100000)).cell (j := 1) (v := .int .i64 0) rfl
      have z2 := ((R2 w4 hb34).out.2.1.setOther (p := ⟨g, k * 3 + 2, none⟩) n1 (.int .i64 100000)).cell (j := 2) (v := .slice none 0 0) rfl
      refine bodyPost_ret (v := .agg #[.int .i64 nodes, .int .i64 slots, .slice (some ⟨g, 0, none⟩) nf cap]) (by simp [results, Try.results31, go_sem, z0, z1, z2, x3, x4, x5, n1, n1']) rfl ⟨g, cap, rfl, ?_⟩
      exact (FIC w4 hb34 k _ (seg_cut (R2 w4 hb34).out.2.2.2.1 hk HZ.out.1 HZ.out.2)).out
  · have hz1 : (c == 0) = false := by simp [hz]
    have HF : Hid (cutF nodes slots nf F v = F) := cutF_no (Or.inl (HC.out ▸ hz))
    clear hz
    go_wp2_with (first | (go_at_call 35; refine (sNf_any RI.out (by omega)).mono ?_; rintro e w3 ⟨rfl, hb3⟩; rw [← HC.out]; clear x0 x1 x2 x3 x4 x5 x6 x7 x8 x9 y0 y1 y2; obtain ⟨x0, x1, x2, x3, x4, x5, x6, x7, x8, x9, y0, y1, y2⟩ := CF w3 hb3))
    refine bodyPost_ret (v := .agg #[.int .i64 nodes, .int .i64 slots, .slice (some ⟨g, 0, none⟩) nf cap]) (by simp [results, Try.results31, go_sem, x3, x4, x5, n1, n1']) rfl ⟨g, cap, rfl, ?_⟩
    rw [HF.out]
    exact (FIN w3 hb3 F (R2 w3 hb3).out.2.2.2.1).out
set_option maxRecDepth 20000 in
set_option maxHeartbeats 3200000 in
theorem iCut_any {w : World} {b off nf cp : Nat} {nodes slots : Int} {F : Nat → Fb} (v : Int) (h : Rf w (.slice (some ⟨b, off, none⟩) nf cp) nf F) (hn : nf ≤ 1048576) (hcp : nf ≤ cp) :
    Calls Try.prog 32 #[.agg #[.int .i64 nodes, .int .i64 slots, .slice (some ⟨b, off, none⟩) nf cp], .int .i64 v] w fun e w' => ∃ g cap, e = .returned (.agg #[.int .i64 nodes, .int .i64 slots, .slice (some ⟨g, 0, none⟩) nf cap]) ∧ OwB w.heap.size w'.heap.size w' g nf (cutF nodes slots nf F v) ∧ Below w.heap.size w w' := by
  have H : ∀ W, Below w.heap.size w W → Hid (∀ i, i < nf → ∀ j, j < 3 → W.cell? ⟨b, off + i * 3 + j, none⟩ = some (fcell (F i) j)) := by
    intro W hb i hi j hj
    obtain ⟨b2, off2, e, hc⟩ := h.at hi
    simp only [Option.some.injEq, Addr.mk.injEq] at e
    obtain ⟨rfl, rfl, _⟩ := e
    exact kold hb (hc j hj)
  have HN : Hid (nf ≤ cp) := hcp
  clear h hcp
  have hnI : (nf : Int) ≤ 1048576 := by omega
  obtain ⟨c, hc⟩ : ∃ c, c = Nt.nfault nodes slots nf F := ⟨_, rfl⟩
  have HC : Hid (c = Nt.nfault nodes slots nf F) := hc
  clear hc
  go_enter Try.func32, Try.ntmps32
  go_upto_region 1 with fail
  obtain ⟨Y, hY⟩ : ∃ Y, Y = ((w.alloc (.cells #[.int .i64 nodes, .int .i64 slots, .slice (some ⟨b, off, none⟩) nf cp] 32)).alloc (.cells #[.int .i64 0, .int .i64 0, .slice none 0 0] 32)) := ⟨_, rfl⟩
  have BY : Hid (Blk Y w.heap.size #[.int .i64 nodes, .int .i64 slots, .slice (some ⟨b, off, none⟩) nf cp] 32 ∧ Blk Y (w.heap.size + 1) #[.int .i64 0, .int .i64 0, .slice none 0 0] 32 ∧ Below w.heap.size w Y ∧ w.heap.size + 2 ≤ Y.heap.size) := by
    rw [hY]
    exact ⟨(Blk.new rfl).alloc _, Blk.new (by simp), ((Below.refl _ _).alloc (Nat.le_refl _) _).alloc (by simp) _, by simp⟩
  rw [← hY]
  clear hY
  have x2 := BY.out.1.cell (j := 2) (v := .slice (some ⟨b, off, none⟩) nf cp) rfl
  have hl1 := BY.out.1.lt
  go_upto_region 2 with (first | (go_at_call 76; refine (cloneF_any (H _ BY.out.2.2.1).out hn).mono ?_; rintro e w1 ⟨g, cap, rfl, hcap, hg, hsg, hb1⟩; have y2 := (BY.out.1.old hb1).cell (j := 2) (v := .slice (some ⟨b, off, none⟩) nf cp) rfl; have yf := (BY.out.1.old hb1).frozen))
  obtain ⟨W2, hW2⟩ : ∃ W2, W2 = w1.setCell ⟨w.heap.size, 2, none⟩ (.slice (some ⟨g, 0, none⟩) nf cap) := ⟨_, rfl⟩
  have B2 : Hid (Blk W2 w.heap.size #[.int .i64 nodes, .int .i64 slots, .slice (some ⟨g, 0, none⟩) nf cap] 32 ∧ Blk W2 (w.heap.size + 1) #[.int .i64 0, .int .i64 0, .slice none 0 0] 32 ∧ SegV W2 g 112 nf 3 (fun i j => fcell (F i) j) ∧ Below w.heap.size w W2 ∧ w.heap.size + 2 ≤ W2.heap.size ∧ w.heap.size + 2 ≤ g) := by
    obtain ⟨q1, q2, q4, q5⟩ := BY.out
    have hsz := hb1.size
    rw [hW2]
    exact ⟨(q1.old hb1).set 2 _ rfl, (q2.old hb1).setOther (by simp) _, hsg.setOther (by omega) _, (q4.trans (hb1.mono q4.size)).setCell (by simp) _, by simp; omega, by omega⟩
  have HNC : Hid (nf ≤ cap) := hcap
  rw [← hW2]
  clear hW2 hsg hb1 hg hcap y2 yf x2 hl1 BY
  have R2 : ∀ W, Below W2.heap.size W2 W → Hid (Blk W w.heap.size #[.int .i64 nodes, .int .i64 slots, .slice (some ⟨g, 0, none⟩) nf cap] 32 ∧ Blk W (w.heap.size + 1) #[.int .i64 0, .int .i64 0, .slice none 0 0] 32 ∧ SegV W g 112 nf 3 (fun i j => fcell (F i) j) ∧ Below w.heap.size w W ∧ w.heap.size + 2 ≤ W.heap.size ∧ w.heap.size + 2 ≤ g) := fun W hb => ⟨B2.out.1.old hb, B2.out.2.1.old hb, B2.out.2.2.1.below hb, B2.out.2.2.2.1.trans (hb.mono B2.out.2.2.2.1.size), Nat.le_trans B2.out.2.2.2.2.1 hb.size, B2.out.2.2.2.2.2⟩
  have CF : ∀ W, Below W2.heap.size W2 W → W.cell? ⟨w.heap.size, 0, none⟩ = some (.int .i64 nodes) ∧ W.cell? ⟨w.heap.size, 1, none⟩ = some (.int .i64 slots) ∧ W.cell? ⟨w.heap.size, 2, none⟩ = some (.slice (some ⟨g, 0, none⟩) nf cap) ∧ W.cell? ⟨w.heap.size + 1, 0, none⟩ = some (.int .i64 0) ∧ W.cell? ⟨w.heap.size + 1, 1, none⟩ = some (.int .i64 0) ∧ W.cell? ⟨w.heap.size + 1, 2, none⟩ = some (.slice none 0 0) ∧ (∀ j, W.frozen? ⟨w.heap.size + 1, j, none⟩ = false) ∧ (∀ j, W.frozen? ⟨g, j, none⟩ = false) ∧ w.heap.size < W.heap.size ∧ w.heap.size + 1 < W.heap.size := fun W hb => by
    obtain ⟨q1, q2, q4, q5, q6, q7⟩ := (R2 W hb).out
    exact ⟨q1.cell rfl, q1.cell rfl, q1.cell rfl, q2.cell rfl, q2.cell rfl, q2.cell rfl, fun j => q2.frozen j, fun j => q4.frozen j, q1.lt, q2.lt⟩
  have hg2 : w.heap.size + 2 ≤ g := B2.out.2.2.2.2.2
  have n1 : w.heap.size + 1 ≠ g := by omega
  have n1' : g ≠ w.heap.size + 1 := by omega
  have n2 : w.heap.size ≠ g := by omega
  have n2' : g ≠ w.heap.size := by omega
  have n3 : w.heap.size + 1 + 1 ≠ g ∨ True := Or.inr trivial
  have FIN : ∀ W, Below W2.heap.size W2 W → ∀ E : Nat → Fb, SegV W g 112 nf 3 (fun i j => fcell (E i) j) → Hid (OwB w.heap.size (((W.setCell ⟨w.heap.size + 1, 0, none⟩ (.int .i64 nodes)).setCell ⟨w.heap.size + 1, 1, none⟩ (.int .i64 slots)).setCell ⟨w.heap.size + 1, 2, none⟩ (.slice (some ⟨g, 0, none⟩) nf cap)).heap.size (((W.setCell ⟨w.heap.size + 1, 0, none⟩ (.int .i64 nodes)).setCell ⟨w.heap.size + 1, 1, none⟩ (.int .i64 slots)).setCell ⟨w.heap.size + 1, 2, none⟩ (.slice (some ⟨g, 0, none⟩) nf cap)) g nf E ∧ Below w.heap.size w (((W.setCell ⟨w.heap.size + 1, 0, none⟩ (.int .i64 nodes)).setCell ⟨w.heap.size + 1, 1, none⟩ (.int .i64 slots)).setCell ⟨w.heap.size + 1, 2, none⟩ (.slice (some ⟨g, 0, none⟩) nf cap))) := fun W hb E hE => by
    obtain ⟨q1, q2, q4, q5, q6, q7⟩ := (R2 W hb).out
    have hl := hE.lt
    refine ⟨⟨by omega, by simp; exact hl, ((hE.setOther n1' _).setOther n1' _).setOther n1' _⟩, ((q5.setCell (by simp) _).setCell (by simp) _).setCell (by simp) _⟩
  have FIC : ∀ W, Below W2.heap.size W2 W → ∀ k : Nat, ∀ E : Nat → Fb, SegV (W.setCell ⟨g, k * 3 + 2, none⟩ (.int .i64 100000)) g 112 nf 3 (fun i j => fcell (E i) j) → Hid (OwB w.heap.size ((((W.setCell ⟨g, k * 3 + 2, none⟩ (.int .i64 100000)).setCell ⟨w.heap.size + 1, 0, none⟩ (.int .i64 nodes)).setCell ⟨w.heap.size + 1, 1, none⟩ (.int .i64 slots)).setCell ⟨w.heap.size + 1, 2, none⟩ (.slice (some ⟨g, 0, none⟩) nf cap)).heap.size ((((W.setCell ⟨g, k * 3 + 2, none⟩ (.int .i64 100000)).setCell ⟨w.heap.size + 1, 0, none⟩ (.int .i64 nodes)).setCell ⟨w.heap.size + 1, 1, none⟩ (.int .i64 slots)).setCell ⟨w.heap.size + 1, 2, none⟩ (.slice (some ⟨g, 0, none⟩) nf cap)) g nf E ∧ Below w.heap.size w ((((W.setCell ⟨g, k * 3 + 2, none⟩ (.int .i64 100000)).setCell ⟨w.heap.size + 1, 0, none⟩ (.int .i64 nodes)).setCell ⟨w.heap.size + 1, 1, none⟩ (.int .i64 slots)).setCell ⟨w.heap.size + 1, 2, none⟩ (.slice (some ⟨g, 0, none⟩) nf cap))) := fun W hb k E hE => by
    obtain ⟨q1, q2, q4, q5, q6, q7⟩ := (R2 W hb).out
    have hl := q4.lt
    refine ⟨⟨by omega, by simp; exact hl, ((hE.setOther n1' _).setOther n1' _).setOther n1' _⟩, (((q5.setCell (by simp; omega) _).setCell (by simp) _).setCell (by simp) _).setCell (by simp) _⟩
  clear H HN B2
  obtain ⟨x0, x1, x2, x3, x4, x5, x6, x7, x8, x9⟩ := CF W2 (Below.refl _ _)
  by_cases hz : c = 0
  · have hz1 : (c == 0) = true := by simp [hz]
    cases hi : Nt.isFi nf v with
    | false =>
      have HF : Hid (cutF nodes slots nf F v = F) := cutF_no (Or.inr hi)
      have HI : Hid (Nt.isFi nf v = false) := hi
      clear hz
      go_wp2_with (first | (go_at_call 77; refine (iNf_any (R2 _ (Below.refl _ _)).out.2.2.1.rd HNC.out (by omega)).mono ?_; rintro e w3 ⟨rfl, hb3⟩; rw [← HC.out]; clear x0 x1 x2 x3 x4 x5 x6 x7 x8 x9; obtain ⟨x0, x1, x2, x3, x4, x5, x6, x7, x8, x9⟩ := CF w3 hb3) | (go_at_call 78; refine (iFib_any nodes slots v _ nf _ _).mono ?_; rintro e w4 ⟨rfl, hb4⟩; rw [hi]; have hb34 : Below W2.heap.size W2 w4 := box_step hb3 hb4 (Nat.le_refl _); clear x0 x1 x2 x3 x4 x5 x6 x7 x8 x9; obtain ⟨x0, x1, x2, x3, x4, x5, x6, x7, x8, x9⟩ := CF w4 hb34))
      refine bodyPost_ret (v := .agg #[.int .i64 nodes, .int .i64 slots, .slice (some ⟨g, 0, none⟩) nf cap]) (by simp [results, Try.results32, go_sem, x3, x4, x5, n1, n1']) rfl ⟨g, cap, rfl, ?_⟩
      rw [HF.out]
      exact (FIN w4 hb34 F (R2 w4 hb34).out.2.2.1).out
    | true =>
      obtain ⟨k, rfl, hk⟩ := fi_nat hi
      have HZ : Hid (Nt.nfault nodes slots nf F = 0 ∧ Nt.isFi nf (k : Int) = true) := ⟨HC.out ▸ hz, hi⟩
      have hkI : (k : Int) < nf := by omega
      have SC : ∀ W, Below W2.heap.size W2 W → W.cell? ⟨g, k * 3 + 2, none⟩ = some (.int .i64 (F k).km) := fun W hb => (R2 W hb).out.2.2.1.cell hk (show 2 < 3 by omega)
      clear hz
      go_wp2_with (first | (go_at_call 77; refine (iNf_any (R2 _ (Below.refl _ _)).out.2.2.1.rd HNC.out (by omega)).mono ?_; rintro e w3 ⟨rfl, hb3⟩; rw [← HC.out]; clear x0 x1 x2 x3 x4 x5 x6 x7 x8 x9; obtain ⟨x0, x1, x2, x3, x4, x5, x6, x7, x8, x9⟩ := CF w3 hb3) | (go_at_call 78; refine (iFib_any nodes slots (k : Int) _ nf _ _).mono ?_; rintro e w4 ⟨rfl, hb4⟩; rw [hi]; have hb34 : Below W2.heap.size W2 w4 := box_step hb3 hb4 (Nat.le_refl _); clear x0 x1 x2 x3 x4 x5 x6 x7 x8 x9; obtain ⟨x0, x1, x2, x3, x4, x5, x6, x7, x8, x9⟩ := CF w4 hb34; have sc := SC w4 hb34))
      have z0 := ((R2 w4 hb34).out.2.1.setOther (p := ⟨g, k * 3 + 2, none⟩) n1 (.int .i64 100000)).cell (j := 0) (v := .int .i64 0) rfl
      have z1 := ((R2 w4 hb34).out.2.1.setOther (p := ⟨g, k * 3 + 2, none⟩) n1 (.int .i64 100000)).cell (j := 1) (v := .int .i64 0) rfl
      have z2 := ((R2 w4 hb34).out.2.1.setOther (p := ⟨g, k * 3 + 2, none⟩) n1 (.int .i64 100000)).cell (j := 2) (v := .slice none 0 0) rfl
      refine bodyPost_ret (v := .agg #[.int .i64 nodes, .int .i64 slots, .slice (some ⟨g, 0, none⟩) nf cap]) (by simp [results, Try.results32, go_sem, z0, z1, z2, x3, x4, x5, n1, n1']) rfl ⟨g, cap, rfl, ?_⟩
      exact (FIC w4 hb34 k _ (seg_cut (R2 w4 hb34).out.2.2.1 hk HZ.out.1 HZ.out.2)).out
  · have hz1 : (c == 0) = false := by simp [hz]
    have HF : Hid (cutF nodes slots nf F v = F) := cutF_no (Or.inl (HC.out ▸ hz))
    clear hz
    go_wp2_with (first | (go_at_call 77; refine (iNf_any (R2 _ (Below.refl _ _)).out.2.2.1.rd HNC.out (by omega)).mono ?_; rintro e w3 ⟨rfl, hb3⟩; rw [← HC.out]; clear x0 x1 x2 x3 x4 x5 x6 x7 x8 x9; obtain ⟨x0, x1, x2, x3, x4, x5, x6, x7, x8, x9⟩ := CF w3 hb3))
    refine bodyPost_ret (v := .agg #[.int .i64 nodes, .int .i64 slots, .slice (some ⟨g, 0, none⟩) nf cap]) (by simp [results, Try.results32, go_sem, x3, x4, x5, n1, n1']) rfl ⟨g, cap, rfl, ?_⟩
    rw [HF.out]
    exact (FIN w3 hb3 F (R2 w3 hb3).out.2.2.1).out
end Go.Proofs.Ythdiodibcebbbaa
