/- Rectangles moved and turned, in both packages: contracts. -/
import Derived.Test.YtclnmikneomccaaRp
namespace Go.Proofs.Ytclnmikneomccaa
open Go.RowKit
set_option linter.unusedVariables false
set_option linter.unusedSimpArgs false
def rval (r : R.G) : Value := .agg #[.int .i64 r.ly, .int .i64 r.xa, .int .i64 r.ya, .int .i64 r.xb, .int .i64 r.yb]
def mvr (x y : Int) (r : R.G) : R.G := ⟨r.ly, wrap64 (r.xa + x), wrap64 (r.ya + y), wrap64 (r.xb + x), wrap64 (r.yb + y)⟩
def tpr (r : R.G) : R.G := ⟨r.ly, r.ya, r.xa, r.yb, r.xb⟩
/-- What is owned beside a box of another kind. -/
theorem ownJ_more {lo : Nat} {w W : World} {v : Value} {k : Nat} {S : Nat → R.G} (h : w.ownsRow lo 68 5 v k (flat (fun i => R.spl (S i)) k)) (hb : Below w.heap.size w W) : W.ownsRow lo 68 5 v k (flat (fun i => R.spl (S i)) k) := ownsV_later h hb
set_option maxRecDepth 20000 in
set_option maxHeartbeats 6400000 in
theorem iClone_any {w : World} {b n cap : Nat} {S : Nat → R.G} (h : SegV w b 68 n 5 (fun i j => R.scell (S i) j)) (hn : n ≤ 1048576) :
    Calls Try.prog 75 #[.slice (some ⟨b, 0, none⟩) n cap] w fun e w' => ∃ v, e = .returned v ∧ w'.ownsRow w.heap.size 68 5 v n (flat (fun i => R.spl (S i)) n) ∧ Below w.heap.size w w' := by
  have HA : ∀ W, Below w.heap.size w W → Hid (SegV W b 68 n 5 (fun i j => R.scell (S i) j)) := fun W hb => h.below hb
  clear h
  have q51 : ∀ (w : World), (binOp .eql 25 (.slice (some ⟨b, 0, none⟩) n cap) (.slice none 0 0)).run Try.prog w = .ok (.bool false) w := fun w => run_eql_nil_slice w 25 68 (some ⟨b, 0, none⟩) n cap 0 0 Try.underlying25
  obtain ⟨w1, hw1⟩ : ∃ W, W = w.alloc (.cells #[] 68) := ⟨_, rfl⟩
  have hO1 : Hid (w1.ownsRow w.heap.size 68 5 (.slice (some ⟨w.heap.size, 0, none⟩) 0 0) 0 [] ∧ Below w.heap.size w w1) := by
    rw [hw1]
    exact ⟨ownsV_empty _ _ _, (Below.refl _ _).alloc (Nat.le_refl _) _⟩
  have HW1 : Hid (w1 = w.alloc (.cells #[] 68)) := hw1
  clear hw1
  have hsz := hO1.out.2.size
  have hn2 : n ≤ 2097152 := by omega
  go_enter Try.func75, Try.ntmps75
  go_wp2_with (first | (at_builtin; rw [← HW1.out]; refine R.pushJ rfl (.tmp 5) (.tmp 6) rfl w1 w.heap.size _ 0 [] (by simp [Act.eval]) hO1.out.1 b n cap S (by simp [Act.eval]) (HA w1 hO1.out.2).out (by omega) hn2 hsz ?_; intro v2 w2 ho2 hb2 hk2; have hO2 : Hid (w2.ownsRow w.heap.size 68 5 v2 n (flat (fun i => R.spl (S i)) n) ∧ Below w.heap.size w w2) := ⟨by rw [Nat.zero_add, List.nil_append] at ho2; exact ho2, hO1.out.2.trans hb2⟩; clear ho2 hb2 hk2))
  go_wp2
  go_ret
  exact ⟨_, rfl, hO2.out⟩
set_option maxRecDepth 20000 in
set_option maxHeartbeats 6400000 in
theorem sMove_any {w : World} {b n cap : Nat} {S : Nat → R.G} {x y : Int} (h : SegV w b 68 n 5 (fun i j => R.scell (S i) j)) (hn : n ≤ 1048576) :
    Calls Try.prog 35 #[.slice (some ⟨b, 0, none⟩) n cap, .int .i64 x, .int .i64 y] w fun e w' => ∃ v, e = .returned v ∧ R.OwJ w.heap.size w'.heap.size w' v n (fun i => mvr x y (S i)) ∧ Below w.heap.size w w' := by
  have H : Hid (∀ i, i < n → ∀ j, j < 5 → w.cell? ⟨b, i * 5 + j, none⟩ = some (R.scell (S i) j)) := fun i hi j hj => h.cell hi hj
  clear h
  have hnI : (n : Int) ≤ 1048576 := by omega
  go_enter Try.func35, Try.ntmps35
  go_wp2_with fail
  obtain ⟨w1, hw1⟩ : ∃ W, W = w.alloc (.cells #[] 68) := ⟨_, rfl⟩
  have hO1 : Hid (w1.ownsRow w.heap.size 68 5 (.slice (some ⟨w.heap.size, 0, none⟩) 0 0) 0 (flat (fun i => R.spl (mvr x y (S i))) 0) ∧ Below w.heap.size w w1) := by
    rw [hw1]
    exact ⟨ownsV_empty _ _ _, (Below.refl _ _).alloc (Nat.le_refl _) _⟩
  rw [← hw1]
  clear hw1
  go_loopw [7, 8] (fun v i wr => ∃ k : Nat, k ≤ n ∧ i = .int .i64 k ∧ Hid (wr.ownsRow w.heap.size 68 5 v k (flat (fun i => R.spl (mvr x y (S i))) k) ∧ Below w.heap.size w wr)) (fun _ i _ => n - (intOf i).toNat)
  case atStart => exact ⟨0, Nat.zero_le _, rfl, hO1⟩
  case round =>
    obtain ⟨k, hk, rfl, HH⟩ := hrel
    obtain ⟨vo, hvo⟩ : ∃ x, x = u7 := ⟨_, rfl⟩
    by_cases hkn : k < n
    · obtain ⟨r, hr⟩ : ∃ r, r = S k := ⟨_, rfl⟩
      have hc := H.out k hkn
      rw [← hr] at hc
      have c0 : wr.cell? ⟨b, k * 5, none⟩ = some (.int .i64 r.ly) := (HH.out.2.cell (World.block_lt_of_cell? _ _ (hc 0 (by omega)))).trans (hc 0 (by omega))
      have c1 : wr.cell? ⟨b, k * 5 + 1, none⟩ = some (.int .i64 r.xa) := (HH.out.2.cell (World.block_lt_of_cell? _ _ (hc 1 (by omega)))).trans (hc 1 (by omega))
      have c2 : wr.cell? ⟨b, k * 5 + 2, none⟩ = some (.int .i64 r.ya) := (HH.out.2.cell (World.block_lt_of_cell? _ _ (hc 2 (by omega)))).trans (hc 2 (by omega))
      have c3 : wr.cell? ⟨b, k * 5 + 3, none⟩ = some (.int .i64 r.xb) := (HH.out.2.cell (World.block_lt_of_cell? _ _ (hc 3 (by omega)))).trans (hc 3 (by omega))
      have c4 : wr.cell? ⟨b, k * 5 + 4, none⟩ = some (.int .i64 r.yb) := (HH.out.2.cell (World.block_lt_of_cell? _ _ (hc 4 (by omega)))).trans (hc 4 (by omega))
      have hkI : (k : Int) < n := by omega
      have HR : Hid (r = S k) := hr
      clear hc hr
      obtain ⟨wb, hwb⟩ : ∃ W, W = wr.alloc (.cells #[.int .i64 r.ly, .int .i64 r.xa, .int .i64 r.ya, .int .i64 r.xb, .int .i64 r.yb] 68) := ⟨_, rfl⟩
      have HB : Hid (wb.ownsRow w.heap.size 68 5 u7 k (flat (fun i => R.spl (mvr x y (S i))) k) ∧ Below w.heap.size w wb) := by
        rw [hwb]
        exact ⟨ownsV_later HH.out.1 ((Below.refl _ _).alloc (Nat.le_refl _) _), box_stay HH.out.2 _⟩
      have HW : Hid (wb = wr.alloc (.cells #[.int .i64 r.ly, .int .i64 r.xa, .int .i64 r.ya, .int .i64 r.xb, .int .i64 r.yb] 68)) := hwb
      clear hwb
      go_wp2_with (first | (at_builtin; rw [← HW.out]; refine R.push1 rfl (.tmp 21) (.tmp 41) rfl wb (mvr x y r) rfl w.heap.size u7 k (fun i => mvr x y (S i)) (by simp [Act.eval]) HB.out.1 1 (by simp [Act.eval, HW.out]) (by omega) HB.out.2.size ?_; intro v2 w2 ho2 hb2; have H2 : Hid (w2.ownsRow w.heap.size 68 5 v2 (k + 1) (flat (fun i => R.spl (mvr x y (S i))) (k + 1)) ∧ Below w.heap.size w w2) := ⟨by
          have e : flat (fun i => R.spl (if i = k then mvr x y r else mvr x y (S i))) (k + 1) = flat (fun i => R.spl (mvr x y (S i))) (k + 1) := flat_congr fun i hi => by
            by_cases e : i = k
            · subst e; simp [HR.out]
            · simp [e]
          rw [← e]; exact ho2, HB.out.2.trans hb2⟩; clear ho2 hb2))
      go_roundw
      case rel => exact ⟨k + 1, by omega, by simp, H2⟩
      case measure => simp [intOf]; omega
    · obtain rfl : k = n := by omega
      clear H
      go_wp2
      go_ret
      exact ⟨_, rfl, R.OwJ.of HH.out.1 (Nat.le_refl _), HH.out.2⟩
set_option maxRecDepth 20000 in
set_option maxHeartbeats 6400000 in
theorem iMove_any {w : World} {b n cap : Nat} {S : Nat → R.G} {x y : Int} (h : SegV w b 68 n 5 (fun i j => R.scell (S i) j)) (hn : n ≤ 1048576) :
    Calls Try.prog 36 #[.slice (some ⟨b, 0, none⟩) n cap, .int .i64 x, .int .i64 y] w fun e w' => ∃ v, e = .returned v ∧ R.OwJ w.heap.size w'.heap.size w' v n (fun i => mvr x y (S i)) ∧ Below w.heap.size w w' := by
  have H : Hid (∀ i, i < n → ∀ j, j < 5 → w.cell? ⟨b, i * 5 + j, none⟩ = some (R.scell (S i) j)) := fun i hi j hj => h.cell hi hj
  have HS : Hid (SegV w b 68 n 5 (fun i j => R.scell (S i) j)) := h
  clear h
  have hnI : (n : Int) ≤ 1048576 := by omega
  go_enter Try.func36, Try.ntmps36
  go_wp2_with fail
  refine (iClone_any HS.out hn).mono ?_
  rintro e w1 ⟨v, rfl, ho, hb1⟩
  have HJ : Hid (R.OwJ w.heap.size w1.heap.size w1 v n S ∧ Below w.heap.size w w1) := ⟨R.OwJ.of ho (Nat.le_refl _), hb1⟩
  clear ho hb1 HS
  by_cases h0 : n = 0
  · subst h0
    obtain ⟨ao, cp, rfl⟩ := HJ.out.1.shape
    have HQ : Hid (R.OwJ w.heap.size w1.heap.size w1 (.slice ao 0 cp) 0 (fun i => mvr x y (S i)) ∧ Below w.heap.size w w1) := ⟨Or.inl ⟨rfl, _, _, rfl⟩, HJ.out.2⟩
    clear H HJ
    go_wp2_with fail
    refine wp_loop_rounds 1 ?_
    rw [rounds_succ]
    go_wp2
    go_ret
    exact ⟨_, rfl, HQ.out⟩
  obtain ⟨g, cp, rfl, hg, hseg, hb1⟩ : ∃ g cp, v = .slice (some ⟨g, 0, none⟩) n cp ∧ w.heap.size ≤ g ∧ Hid (SegV w1 g 68 n 5 (fun i j => R.scell (S i) j)) ∧ Hid (Below w.heap.size w w1) := by
    rcases HJ.out.1 with ⟨e, _⟩ | ⟨g, cp, e, h1, h2, h3⟩
    · exact absurd e h0
    · exact ⟨g, cp, e, h1, h3, HJ.out.2⟩
  clear HJ
  go_wp2_with fail
  go_loopw [14] (fun i wr => ∃ k : Nat, k ≤ n ∧ i = .int .i64 k ∧ Hid (SegV wr g 68 n 5 (fun i j => if i < k then R.scell (mvr x y (S i)) j else R.scell (S i) j) ∧ Below w.heap.size w wr)) (fun i _ => n - (intOf i).toNat)
  case atStart => exact ⟨0, Nat.zero_le _, rfl, hseg.out.congr (fun i _ j _ => by simp), hb1.out⟩
  case round =>
    obtain ⟨k, hk, rfl, HH⟩ := hrel
    by_cases hkn : k < n
    · obtain ⟨r, hr⟩ : ∃ r, r = S k := ⟨_, rfl⟩
      have hc := H.out k hkn
      rw [← hr] at hc
      have c0 : wr.cell? ⟨b, k * 5, none⟩ = some (.int .i64 r.ly) := (HH.out.2.cell (World.block_lt_of_cell? _ _ (hc 0 (by omega)))).trans (hc 0 (by omega))
      have c1 : wr.cell? ⟨b, k * 5 + 1, none⟩ = some (.int .i64 r.xa) := (HH.out.2.cell (World.block_lt_of_cell? _ _ (hc 1 (by omega)))).trans (hc 1 (by omega))
      have c2 : wr.cell? ⟨b, k * 5 + 2, none⟩ = some (.int .i64 r.ya) := (HH.out.2.cell (World.block_lt_of_cell? _ _ (hc 2 (by omega)))).trans (hc 2 (by omega))
      have c3 : wr.cell? ⟨b, k * 5 + 3, none⟩ = some (.int .i64 r.xb) := (HH.out.2.cell (World.block_lt_of_cell? _ _ (hc 3 (by omega)))).trans (hc 3 (by omega))
      have c4 : wr.cell? ⟨b, k * 5 + 4, none⟩ = some (.int .i64 r.yb) := (HH.out.2.cell (World.block_lt_of_cell? _ _ (hc 4 (by omega)))).trans (hc 4 (by omega))
      have hkI : (k : Int) < n := by omega
      have HR : Hid (r = S k) := hr
      clear hc hr
      go_upto_region 5 with fail
      obtain ⟨wb, hwb⟩ : ∃ W, W = wr.alloc (.cells #[.int .i64 r.ly, .int .i64 r.xa, .int .i64 r.ya, .int .i64 r.xb, .int .i64 r.yb] 68) := ⟨_, rfl⟩
      have HB : Hid (SegV wb g 68 n 5 (fun i j => if i < k then R.scell (mvr x y (S i)) j else R.scell (S i) j) ∧ Below w.heap.size w wb) := by
        rw [hwb]
        exact ⟨HH.out.1.below ((Below.refl _ _).alloc (Nat.le_refl _) _), box_stay HH.out.2 _⟩
      have B : Blk wb wr.heap.size #[.int .i64 r.ly, .int .i64 r.xa, .int .i64 r.ya, .int .i64 r.xb, .int .i64 r.yb] 68 := by rw [hwb]; exact Blk.new rfl
      rw [← hwb]
      clear hwb c0 c1 c2 c3 c4
      have d0 := B.cell (j := 0) rfl
      have d1 := B.cell (j := 1) rfl
      have d2 := B.cell (j := 2) rfl
      have d3 := B.cell (j := 3) rfl
      have d4 := B.cell (j := 4) rfl
      have e0 := HB.out.1.cell hkn (show 0 < 5 by omega)
      have e1 := HB.out.1.cell hkn (show 1 < 5 by omega)
      have e2 := HB.out.1.cell hkn (show 2 < 5 by omega)
      have e3 := HB.out.1.cell hkn (show 3 < 5 by omega)
      have e4 := HB.out.1.cell hkn (show 4 < 5 by omega)
      simp only [Nat.add_zero, Nat.lt_irrefl, if_false] at e0 e1 e2 e3 e4
      have ef : ∀ j, wb.frozen? ⟨g, j, none⟩ = false := fun j => HB.out.1.frozen j
      have HX : Hid (SegV (((((wb.setCell ⟨g, k * 5, none⟩ (.int .i64 (r.ly))).setCell ⟨g, k * 5 + 1, none⟩ (.int .i64 (wrap64 (r.xa + x)))).setCell ⟨g, k * 5 + 2, none⟩ (.int .i64 (wrap64 (r.ya + y)))).setCell ⟨g, k * 5 + 3, none⟩ (.int .i64 (wrap64 (r.xb + x)))).setCell ⟨g, k * 5 + 4, none⟩ (.int .i64 (wrap64 (r.yb + y)))) g 68 n 5 (fun i j => if i < k + 1 then R.scell (mvr x y (S i)) j else R.scell (S i) j) ∧ Below w.heap.size w (((((wb.setCell ⟨g, k * 5, none⟩ (.int .i64 (r.ly))).setCell ⟨g, k * 5 + 1, none⟩ (.int .i64 (wrap64 (r.xa + x)))).setCell ⟨g, k * 5 + 2, none⟩ (.int .i64 (wrap64 (r.ya + y)))).setCell ⟨g, k * 5 + 3, none⟩ (.int .i64 (wrap64 (r.xb + x)))).setCell ⟨g, k * 5 + 4, none⟩ (.int .i64 (wrap64 (r.yb + y))))) := by
        obtain ⟨h1, h2⟩ := HB.out
        have t0 := SegV.set h1 hkn (show 0 < 5 by omega) (.int .i64 (r.ly))
        have t1 := SegV.set t0 hkn (show 1 < 5 by omega) (.int .i64 (wrap64 (r.xa + x)))
        have t2 := SegV.set t1 hkn (show 2 < 5 by omega) (.int .i64 (wrap64 (r.ya + y)))
        have t3 := SegV.set t2 hkn (show 3 < 5 by omega) (.int .i64 (wrap64 (r.xb + x)))
        have t4 := SegV.set t3 hkn (show 4 < 5 by omega) (.int .i64 (wrap64 (r.yb + y)))
        refine ⟨t4.congr fun a ha j hj => ?_, ((((h2.setCell hg _).setCell hg _).setCell hg _).setCell hg _).setCell hg _⟩
        by_cases c : a = k
        · subst c
          have e3 : a < a + 1 := by omega
          rw [← HR.out]
          match j, hj with
          | 0, _ => simp [e3, R.scell, mvr]
          | 1, _ => simp [e3, R.scell, mvr]
          | 2, _ => simp [e3, R.scell, mvr]
          | 3, _ => simp [e3, R.scell, mvr]
          | 4, _ => simp [e3, R.scell, mvr]
        · by_cases c2 : a < k
          · simp [c, c2, Nat.lt_succ_of_lt c2]
          · have : ¬ a < k + 1 := by omega
            simp [c, c2, this]
      clear B
      go_wp2
      go_roundw
      case rel => exact ⟨k + 1, by omega, by simp, HX⟩
      case measure => simp [intOf]; omega
    · obtain rfl : k = n := by omega
      have HQ : Hid (R.OwJ w.heap.size wr.heap.size wr (.slice (some ⟨g, 0, none⟩) k cp) k (fun i => mvr x y (S i)) ∧ Below w.heap.size w wr) := ⟨Or.inr ⟨g, cp, rfl, hg, HH.out.1.lt, HH.out.1.congr fun i hi j _ => by simp [hi]⟩, HH.out.2⟩
      clear H
      go_wp2
      go_ret
      exact ⟨_, rfl, HQ.out⟩
set_option maxRecDepth 20000 in
set_option maxHeartbeats 6400000 in
theorem sTurn_any {w : World} {b n cap : Nat} {S : Nat → R.G} (h : SegV w b 68 n 5 (fun i j => R.scell (S i) j)) (hn : n ≤ 1048576) :
    Calls Try.prog 38 #[.slice (some ⟨b, 0, none⟩) n cap] w fun e w' => ∃ v, e = .returned v ∧ R.OwJ w.heap.size w'.heap.size w' v n (fun i => tpr (S i)) ∧ Below w.heap.size w w' := by
  have H : Hid (∀ i, i < n → ∀ j, j < 5 → w.cell? ⟨b, i * 5 + j, none⟩ = some (R.scell (S i) j)) := fun i hi j hj => h.cell hi hj
  clear h
  have hnI : (n : Int) ≤ 1048576 := by omega
  go_enter Try.func38, Try.ntmps38
  go_wp2_with fail
  obtain ⟨w1, hw1⟩ : ∃ W, W = w.alloc (.cells #[] 68) := ⟨_, rfl⟩
  have hO1 : Hid (w1.ownsRow w.heap.size 68 5 (.slice (some ⟨w.heap.size, 0, none⟩) 0 0) 0 (flat (fun i => R.spl (tpr (S i))) 0) ∧ Below w.heap.size w w1) := by
    rw [hw1]
    exact ⟨ownsV_empty _ _ _, (Below.refl _ _).alloc (Nat.le_refl _) _⟩
  rw [← hw1]
  clear hw1
  go_loopw [3, 4] (fun v i wr => ∃ k : Nat, k ≤ n ∧ i = .int .i64 k ∧ Hid (wr.ownsRow w.heap.size 68 5 v k (flat (fun i => R.spl (tpr (S i))) k) ∧ Below w.heap.size w wr)) (fun _ i _ => n - (intOf i).toNat)
  case atStart => exact ⟨0, Nat.zero_le _, rfl, hO1⟩
  case round =>
    obtain ⟨k, hk, rfl, HH⟩ := hrel
    obtain ⟨vo, hvo⟩ : ∃ x, x = u3 := ⟨_, rfl⟩
    by_cases hkn : k < n
    · obtain ⟨r, hr⟩ : ∃ r, r = S k := ⟨_, rfl⟩
      have hc := H.out k hkn
      rw [← hr] at hc
      have c0 : wr.cell? ⟨b, k * 5, none⟩ = some (.int .i64 r.ly) := (HH.out.2.cell (World.block_lt_of_cell? _ _ (hc 0 (by omega)))).trans (hc 0 (by omega))
      have c1 : wr.cell? ⟨b, k * 5 + 1, none⟩ = some (.int .i64 r.xa) := (HH.out.2.cell (World.block_lt_of_cell? _ _ (hc 1 (by omega)))).trans (hc 1 (by omega))
      have c2 : wr.cell? ⟨b, k * 5 + 2, none⟩ = some (.int .i64 r.ya) := (HH.out.2.cell (World.block_lt_of_cell? _ _ (hc 2 (by omega)))).trans (hc 2 (by omega))
      have c3 : wr.cell? ⟨b, k * 5 + 3, none⟩ = some (.int .i64 r.xb) := (HH.out.2.cell (World.block_lt_of_cell? _ _ (hc 3 (by omega)))).trans (hc 3 (by omega))
      have c4 : wr.cell? ⟨b, k * 5 + 4, none⟩ = some (.int .i64 r.yb) := (HH.out.2.cell (World.block_lt_of_cell? _ _ (hc 4 (by omega)))).trans (hc 4 (by omega))
      have hkI : (k : Int) < n := by omega
      have HR : Hid (r = S k) := hr
      clear hc hr
      obtain ⟨wb, hwb⟩ : ∃ W, W = wr.alloc (.cells #[.int .i64 r.ly, .int .i64 r.xa, .int .i64 r.ya, .int .i64 r.xb, .int .i64 r.yb] 68) := ⟨_, rfl⟩
      have HB : Hid (wb.ownsRow w.heap.size 68 5 u3 k (flat (fun i => R.spl (tpr (S i))) k) ∧ Below w.heap.size w wb) := by
        rw [hwb]
        exact ⟨ownsV_later HH.out.1 ((Below.refl _ _).alloc (Nat.le_refl _) _), box_stay HH.out.2 _⟩
      have HW : Hid (wb = wr.alloc (.cells #[.int .i64 r.ly, .int .i64 r.xa, .int .i64 r.ya, .int .i64 r.xb, .int .i64 r.yb] 68)) := hwb
      clear hwb
      go_wp2_with (first | (at_builtin; rw [← HW.out]; refine R.push1 rfl (.tmp 17) (.tmp 29) rfl wb (tpr r) rfl w.heap.size u3 k (fun i => tpr (S i)) (by simp [Act.eval]) HB.out.1 1 (by simp [Act.eval, HW.out]) (by omega) HB.out.2.size ?_; intro v2 w2 ho2 hb2; have H2 : Hid (w2.ownsRow w.heap.size 68 5 v2 (k + 1) (flat (fun i => R.spl (tpr (S i))) (k + 1)) ∧ Below w.heap.size w w2) := ⟨by
          have e : flat (fun i => R.spl (if i = k then tpr r else tpr (S i))) (k + 1) = flat (fun i => R.spl (tpr (S i))) (k + 1) := flat_congr fun i hi => by
            by_cases e : i = k
            · subst e; simp [HR.out]
            · simp [e]
          rw [← e]; exact ho2, HB.out.2.trans hb2⟩; clear ho2 hb2))
      go_roundw
      case rel => exact ⟨k + 1, by omega, by simp, H2⟩
      case measure => simp [intOf]; omega
    · obtain rfl : k = n := by omega
      clear H
      go_wp2
      go_ret
      exact ⟨_, rfl, R.OwJ.of HH.out.1 (Nat.le_refl _), HH.out.2⟩
set_option maxRecDepth 20000 in
set_option maxHeartbeats 6400000 in
theorem iTurn_any {w : World} {b n cap : Nat} {S : Nat → R.G} (h : SegV w b 68 n 5 (fun i j => R.scell (S i) j)) (hn : n ≤ 1048576) :
    Calls Try.prog 39 #[.slice (some ⟨b, 0, none⟩) n cap] w fun e w' => ∃ v, e = .returned v ∧ R.OwJ w.heap.size w'.heap.size w' v n (fun i => tpr (S i)) ∧ Below w.heap.size w w' := by
  have H : Hid (∀ i, i < n → ∀ j, j < 5 → w.cell? ⟨b, i * 5 + j, none⟩ = some (R.scell (S i) j)) := fun i hi j hj => h.cell hi hj
  have HS : Hid (SegV w b 68 n 5 (fun i j => R.scell (S i) j)) := h
  clear h
  have hnI : (n : Int) ≤ 1048576 := by omega
  go_enter Try.func39, Try.ntmps39
  go_wp2_with fail
  refine (iClone_any HS.out hn).mono ?_
  rintro e w1 ⟨v, rfl, ho, hb1⟩
  have HJ : Hid (R.OwJ w.heap.size w1.heap.size w1 v n S ∧ Below w.heap.size w w1) := ⟨R.OwJ.of ho (Nat.le_refl _), hb1⟩
  clear ho hb1 HS
  by_cases h0 : n = 0
  · subst h0
    obtain ⟨ao, cp, rfl⟩ := HJ.out.1.shape
    have HQ : Hid (R.OwJ w.heap.size w1.heap.size w1 (.slice ao 0 cp) 0 (fun i => tpr (S i)) ∧ Below w.heap.size w w1) := ⟨Or.inl ⟨rfl, _, _, rfl⟩, HJ.out.2⟩
    clear H HJ
    go_wp2_with fail
    refine wp_loop_rounds 1 ?_
    rw [rounds_succ]
    go_wp2
    go_ret
    exact ⟨_, rfl, HQ.out⟩
  obtain ⟨g, cp, rfl, hg, hseg, hb1⟩ : ∃ g cp, v = .slice (some ⟨g, 0, none⟩) n cp ∧ w.heap.size ≤ g ∧ Hid (SegV w1 g 68 n 5 (fun i j => R.scell (S i) j)) ∧ Hid (Below w.heap.size w w1) := by
    rcases HJ.out.1 with ⟨e, _⟩ | ⟨g, cp, e, h1, h2, h3⟩
    · exact absurd e h0
    · exact ⟨g, cp, e, h1, h3, HJ.out.2⟩
  clear HJ
  go_wp2_with fail
  go_loopw [10] (fun i wr => ∃ k : Nat, k ≤ n ∧ i = .int .i64 k ∧ Hid (SegV wr g 68 n 5 (fun i j => if i < k then R.scell (tpr (S i)) j else R.scell (S i) j) ∧ Below w.heap.size w wr)) (fun i _ => n - (intOf i).toNat)
  case atStart => exact ⟨0, Nat.zero_le _, rfl, hseg.out.congr (fun i _ j _ => by simp), hb1.out⟩
  case round =>
    obtain ⟨k, hk, rfl, HH⟩ := hrel
    by_cases hkn : k < n
    · obtain ⟨r, hr⟩ : ∃ r, r = S k := ⟨_, rfl⟩
      have hc := H.out k hkn
      rw [← hr] at hc
      have c0 : wr.cell? ⟨b, k * 5, none⟩ = some (.int .i64 r.ly) := (HH.out.2.cell (World.block_lt_of_cell? _ _ (hc 0 (by omega)))).trans (hc 0 (by omega))
      have c1 : wr.cell? ⟨b, k * 5 + 1, none⟩ = some (.int .i64 r.xa) := (HH.out.2.cell (World.block_lt_of_cell? _ _ (hc 1 (by omega)))).trans (hc 1 (by omega))
      have c2 : wr.cell? ⟨b, k * 5 + 2, none⟩ = some (.int .i64 r.ya) := (HH.out.2.cell (World.block_lt_of_cell? _ _ (hc 2 (by omega)))).trans (hc 2 (by omega))
      have c3 : wr.cell? ⟨b, k * 5 + 3, none⟩ = some (.int .i64 r.xb) := (HH.out.2.cell (World.block_lt_of_cell? _ _ (hc 3 (by omega)))).trans (hc 3 (by omega))
      have c4 : wr.cell? ⟨b, k * 5 + 4, none⟩ = some (.int .i64 r.yb) := (HH.out.2.cell (World.block_lt_of_cell? _ _ (hc 4 (by omega)))).trans (hc 4 (by omega))
      have hkI : (k : Int) < n := by omega
      have HR : Hid (r = S k) := hr
      clear hc hr
      go_upto_region 5 with fail
      obtain ⟨wb, hwb⟩ : ∃ W, W = wr.alloc (.cells #[.int .i64 r.ly, .int .i64 r.xa, .int .i64 r.ya, .int .i64 r.xb, .int .i64 r.yb] 68) := ⟨_, rfl⟩
      have HB : Hid (SegV wb g 68 n 5 (fun i j => if i < k then R.scell (tpr (S i)) j else R.scell (S i) j) ∧ Below w.heap.size w wb) := by
        rw [hwb]
        exact ⟨HH.out.1.below ((Below.refl _ _).alloc (Nat.le_refl _) _), box_stay HH.out.2 _⟩
      have B : Blk wb wr.heap.size #[.int .i64 r.ly, .int .i64 r.xa, .int .i64 r.ya, .int .i64 r.xb, .int .i64 r.yb] 68 := by rw [hwb]; exact Blk.new rfl
      rw [← hwb]
      clear hwb c0 c1 c2 c3 c4
      have d0 := B.cell (j := 0) rfl
      have d1 := B.cell (j := 1) rfl
      have d2 := B.cell (j := 2) rfl
      have d3 := B.cell (j := 3) rfl
      have d4 := B.cell (j := 4) rfl
      have e0 := HB.out.1.cell hkn (show 0 < 5 by omega)
      have e1 := HB.out.1.cell hkn (show 1 < 5 by omega)
      have e2 := HB.out.1.cell hkn (show 2 < 5 by omega)
      have e3 := HB.out.1.cell hkn (show 3 < 5 by omega)
      have e4 := HB.out.1.cell hkn (show 4 < 5 by omega)
      simp only [Nat.add_zero, Nat.lt_irrefl, if_false] at e0 e1 e2 e3 e4
      have ef : ∀ j, wb.frozen? ⟨g, j, none⟩ = false := fun j => HB.out.1.frozen j
      have HX : Hid (SegV (((((wb.setCell ⟨g, k * 5, none⟩ (.int .i64 (r.ly))).setCell ⟨g, k * 5 + 1, none⟩ (.int .i64 (r.ya))).setCell ⟨g, k * 5 + 2, none⟩ (.int .i64 (r.xa))).setCell ⟨g, k * 5 + 3, none⟩ (.int .i64 (r.yb))).setCell ⟨g, k * 5 + 4, none⟩ (.int .i64 (r.xb))) g 68 n 5 (fun i j => if i < k + 1 then R.scell (tpr (S i)) j else R.scell (S i) j) ∧ Below w.heap.size w (((((wb.setCell ⟨g, k * 5, none⟩ (.int .i64 (r.ly))).setCell ⟨g, k * 5 + 1, none⟩ (.int .i64 (r.ya))).setCell ⟨g, k * 5 + 2, none⟩ (.int .i64 (r.xa))).setCell ⟨g, k * 5 + 3, none⟩ (.int .i64 (r.yb))).setCell ⟨g, k * 5 + 4, none⟩ (.int .i64 (r.xb)))) := by
        obtain ⟨h1, h2⟩ := HB.out
        have t0 := SegV.set h1 hkn (show 0 < 5 by omega) (.int .i64 (r.ly))
        have t1 := SegV.set t0 hkn (show 1 < 5 by omega) (.int .i64 (r.ya))
        have t2 := SegV.set t1 hkn (show 2 < 5 by omega) (.int .i64 (r.xa))
        have t3 := SegV.set t2 hkn (show 3 < 5 by omega) (.int .i64 (r.yb))
        have t4 := SegV.set t3 hkn (show 4 < 5 by omega) (.int .i64 (r.xb))
        refine ⟨t4.congr fun a ha j hj => ?_, ((((h2.setCell hg _).setCell hg _).setCell hg _).setCell hg _).setCell hg _⟩
        by_cases c : a = k
        · subst c
          have e3 : a < a + 1 := by omega
          rw [← HR.out]
          match j, hj with
          | 0, _ => simp [e3, R.scell, tpr]
          | 1, _ => simp [e3, R.scell, tpr]
          | 2, _ => simp [e3, R.scell, tpr]
          | 3, _ => simp [e3, R.scell, tpr]
          | 4, _ => simp [e3, R.scell, tpr]
        · by_cases c2 : a < k
          · simp [c, c2, Nat.lt_succ_of_lt c2]
          · have : ¬ a < k + 1 := by omega
            simp [c, c2, this]
      clear B
      go_wp2
      go_roundw
      case rel => exact ⟨k + 1, by omega, by simp, HX⟩
      case measure => simp [intOf]; omega
    · obtain rfl : k = n := by omega
      have HQ : Hid (R.OwJ w.heap.size wr.heap.size wr (.slice (some ⟨g, 0, none⟩) k cp) k (fun i => tpr (S i)) ∧ Below w.heap.size w wr) := ⟨Or.inr ⟨g, cp, rfl, hg, HH.out.1.lt, HH.out.1.congr fun i hi j _ => by simp [hi]⟩, HH.out.2⟩
      clear H
      go_wp2
      go_ret
      exact ⟨_, rfl, HQ.out⟩
end Go.Proofs.Ytclnmikneomccaa
