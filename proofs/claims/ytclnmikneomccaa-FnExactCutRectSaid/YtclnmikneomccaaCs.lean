/- A rectangle cut: the specification's contract. -/
import Derived.Test.YtclnmikneomccaaCt
namespace Go.Proofs.Ytclnmikneomccaa
open Go.RowKit Go.Maps
set_option linter.unusedVariables false
set_option linter.unusedSimpArgs false
theorem ne_int {k : Nat} {c : Int} (h : ¬ (k : Int) = c) : ((k : Int) != c) = true := by simpa using h
set_option maxRecDepth 20000 in
set_option maxHeartbeats 6400000 in
theorem sCut_no {w : World} {b n cap : Nat} {S : Nat → R.G} {c x : Int} (h : SegV w b 68 n 5 (fun i j => R.scell (S i) j)) (hn : n ≤ 1048576) (hno : ∀ k, k < n → (k : Int) = c → (S k).xa < x → x < (S k).xb → False) :
    Calls Try.prog 40 #[.slice (some ⟨b, 0, none⟩) n cap, .int .i64 c, .int .i64 x] w fun e w' => ∃ v, e = .returned v ∧ R.OwJ w.heap.size w'.heap.size w' v n S ∧ Below w.heap.size w w' := by
  have HNO : Hid (∀ k, k < n → (k : Int) = c → (S k).xa < x → x < (S k).xb → False) := hno
  clear hno
  have H : Hid (∀ i, i < n → ∀ j, j < 5 → w.cell? ⟨b, i * 5 + j, none⟩ = some (R.scell (S i) j)) := fun i hi j hj => h.cell hi hj
  clear h
  have hnI : (n : Int) ≤ 1048576 := by omega
  go_enter Try.func40, Try.ntmps40
  go_wp2_with fail
  obtain ⟨w1, hw1⟩ : ∃ W, W = w.alloc (.cells #[] 68) := ⟨_, rfl⟩
  have hO1 : Hid (w1.ownsRow w.heap.size 68 5 (.slice (some ⟨w.heap.size, 0, none⟩) 0 0) 0 [] ∧ Below w.heap.size w w1) := by
    rw [hw1]
    exact ⟨ownsV_empty _ _ _, (Below.refl _ _).alloc (Nat.le_refl _) _⟩
  rw [← hw1]
  clear hw1
  go_loopw [7, 8] (fun v i wr => ∃ k : Nat, k ≤ n ∧ i = .int .i64 k ∧ Hid (wr.ownsRow w.heap.size 68 5 v k (flat (fun i => R.spl (S i)) k) ∧ Below w.heap.size w wr)) (fun _ i _ => n - (intOf i).toNat)
  case atStart => exact ⟨0, Nat.zero_le _, rfl, hO1⟩
  case round =>
    clear hO1
    obtain ⟨k, hk, rfl, HH⟩ := hrel
    obtain ⟨vo, hvo⟩ : ∃ x, x = u7 := ⟨_, rfl⟩
    rw [← hvo] at HH ⊢
    clear hvo
    by_cases hkn : k < n
    · obtain ⟨r, hr⟩ : ∃ r, r = S k := ⟨_, rfl⟩
      have hc := H.out k hkn
      rw [← hr] at hc
      have c0 : wr.cell? ⟨b, k * 5, none⟩ = some (.int .i64 r.ly) := (HH.out.2.cell (World.block_lt_of_cell? _ _ (hc 0 (by omega)))).trans (hc 0 (by omega))
      have c1 : wr.cell? ⟨b, k * 5 + 1, none⟩ = some (.int .i64 r.xa) := (HH.out.2.cell (World.block_lt_of_cell? _ _ (hc 1 (by omega)))).trans (hc 1 (by omega))
      have c2 : wr.cell? ⟨b, k * 5 + 2, none⟩ = some (.int .i64 r.ya) := (HH.out.2.cell (World.block_lt_of_cell? _ _ (hc 2 (by omega)))).trans (hc 2 (by omega))
      have c3 : wr.cell? ⟨b, k * 5 + 3, none⟩ = some (.int .i64 r.xb) := (HH.out.2.cell (World.block_lt_of_cell? _ _ (hc 3 (by omega)))).trans (hc 3 (by omega))
      have c4 : wr.cell? ⟨b, k * 5 + 4, none⟩ = some (.int .i64 r.yb) := (HH.out.2.cell (World.block_lt_of_cell? _ _ (hc 4 (by omega)))).trans (hc 4 (by omega))
      have hkI : (k : Int) < n := by omega
      have HR : Hid (r = S k) := hr
      clear hc hr
      go_upto_region 6 with fail
      obtain ⟨wb, hwb⟩ : ∃ W, W = wr.alloc (.cells #[.int .i64 r.ly, .int .i64 r.xa, .int .i64 r.ya, .int .i64 r.xb, .int .i64 r.yb] 68) := ⟨_, rfl⟩
      obtain ⟨p9, h9⟩ : ∃ p, p = wr.heap.size := ⟨_, rfl⟩
      have HB : Hid (wb.ownsRow w.heap.size 68 5 vo k (flat (fun i => R.spl (S i)) k) ∧ Below w.heap.size w wb ∧ Blk wb p9 #[.int .i64 r.ly, .int .i64 r.xa, .int .i64 r.ya, .int .i64 r.xb, .int .i64 r.yb] 68) := by
        rw [hwb]
        exact ⟨ownsV_later HH.out.1 ((Below.refl _ _).alloc (Nat.le_refl _) _), box_stay HH.out.2 _, Blk.new h9⟩
      rw [← hwb, ← h9]
      clear hwb h9 c0 c1 c2 c3 c4
      have b0 := HB.out.2.2.cell (j := 0) rfl
      have b1 := HB.out.2.2.cell (j := 1) rfl
      have b2 := HB.out.2.2.cell (j := 2) rfl
      have b3 := HB.out.2.2.cell (j := 3) rfl
      have b4 := HB.out.2.2.cell (j := 4) rfl
      by_cases q0 : (k : Int) = c
      · have hq0 : ((k : Int) != c) = false := by simpa using q0
        by_cases q1 : x ≤ r.xa
        · replace q0 : Hid _ := q0
          go_wp2_with (first | (at_builtin; refine R.push1 rfl (.tmp 38) (.tmp 40) rfl wb r rfl w.heap.size vo k (fun i => S i) (by simp [Act.eval]) HB.out.1 1 (by simp [Act.eval]) (by omega) HB.out.2.1.size ?_; intro v2 w2 ho2 hb2; have H2 : Hid (w2.ownsRow w.heap.size 68 5 v2 (k + 1) (flat (fun i => R.spl (S i)) (k + 1)) ∧ Below w.heap.size w w2) := ⟨by
                have e : flat (fun i => R.spl (if i = k then r else S i)) (k + 1) = flat (fun i => R.spl (S i)) (k + 1) := flat_congr fun i hi => by
                  by_cases e : i = k
                  · subst e; rw [if_pos rfl, HR.out]
                  · simp only [e, if_false]
                rw [← e]; exact ho2, HB.out.2.1.trans hb2⟩; clear ho2 hb2))
          go_roundw
          case rel => exact ⟨k + 1, by omega, by simp, H2⟩
          case measure => simp [intOf]; omega
        · by_cases q2 : r.xb ≤ x
          · replace q0 : Hid _ := q0
            go_wp2_with (first | (at_builtin; refine R.push1 rfl (.tmp 38) (.tmp 40) rfl wb r rfl w.heap.size vo k (fun i => S i) (by simp [Act.eval]) HB.out.1 1 (by simp [Act.eval]) (by omega) HB.out.2.1.size ?_; intro v2 w2 ho2 hb2; have H2 : Hid (w2.ownsRow w.heap.size 68 5 v2 (k + 1) (flat (fun i => R.spl (S i)) (k + 1)) ∧ Below w.heap.size w w2) := ⟨by
                  have e : flat (fun i => R.spl (if i = k then r else S i)) (k + 1) = flat (fun i => R.spl (S i)) (k + 1) := flat_congr fun i hi => by
                    by_cases e : i = k
                    · subst e; rw [if_pos rfl, HR.out]
                    · simp only [e, if_false]
                  rw [← e]; exact ho2, HB.out.2.1.trans hb2⟩; clear ho2 hb2))
            go_roundw
            case rel => exact ⟨k + 1, by omega, by simp, H2⟩
            case measure => simp [intOf]; omega
          · exact absurd (HNO.out k hkn q0 (by rw [← HR.out]; omega) (by rw [← HR.out]; omega)) id
      · have hq0 : ((k : Int) != c) = true := ne_int q0
        replace q0 : Hid _ := q0
        go_wp2_with (first | (at_builtin; refine R.push1 rfl (.tmp 38) (.tmp 40) rfl wb r rfl w.heap.size vo k (fun i => S i) (by simp [Act.eval]) HB.out.1 1 (by simp [Act.eval]) (by omega) HB.out.2.1.size ?_; intro v2 w2 ho2 hb2; have H2 : Hid (w2.ownsRow w.heap.size 68 5 v2 (k + 1) (flat (fun i => R.spl (S i)) (k + 1)) ∧ Below w.heap.size w w2) := ⟨by
              have e : flat (fun i => R.spl (if i = k then r else S i)) (k + 1) = flat (fun i => R.spl (S i)) (k + 1) := flat_congr fun i hi => by
                by_cases e : i = k
                · subst e; rw [if_pos rfl, HR.out]
                · simp only [e, if_false]
              rw [← e]; exact ho2, HB.out.2.1.trans hb2⟩; clear ho2 hb2))
        go_roundw
        case rel => exact ⟨k + 1, by omega, by simp, H2⟩
        case measure => simp [intOf]; omega
    · obtain rfl : k = n := by omega
      clear H
      go_wp2
      go_ret
      exact ⟨_, rfl, R.OwJ.of HH.out.1 (Nat.le_refl _), HH.out.2⟩
set_option maxRecDepth 20000 in
set_option maxHeartbeats 6400000 in
theorem sCut_yes {w : World} {b n cap p : Nat} {S : Nat → R.G} {x : Int} (h : SegV w b 68 n 5 (fun i j => R.scell (S i) j)) (hn : n ≤ 1048576) (hp : p < n) (h1 : (S p).xa < x) (h2 : x < (S p).xb) :
    Calls Try.prog 40 #[.slice (some ⟨b, 0, none⟩) n cap, .int .i64 (p : Int), .int .i64 x] w fun e w' => ∃ v, e = .returned v ∧ R.OwJ w.heap.size w'.heap.size w' v (n + 1) (fun i => ins (cut1 S p x) (p + 1) (rgt (S p) x) i) ∧ Below w.heap.size w w' := by
  have HPX : Hid ((S p).xa < x ∧ x < (S p).xb) := ⟨h1, h2⟩
  clear h1 h2
  have H : Hid (∀ i, i < n → ∀ j, j < 5 → w.cell? ⟨b, i * 5 + j, none⟩ = some (R.scell (S i) j)) := fun i hi j hj => h.cell hi hj
  clear h
  have hnI : (n : Int) ≤ 1048576 := by omega
  go_enter Try.func40, Try.ntmps40
  go_wp2_with fail
  obtain ⟨w1, hw1⟩ : ∃ W, W = w.alloc (.cells #[] 68) := ⟨_, rfl⟩
  have hO1 : Hid (w1.ownsRow w.heap.size 68 5 (.slice (some ⟨w.heap.size, 0, none⟩) 0 0) 0 [] ∧ Below w.heap.size w w1) := by
    rw [hw1]
    exact ⟨ownsV_empty _ _ _, (Below.refl _ _).alloc (Nat.le_refl _) _⟩
  rw [← hw1]
  clear hw1
  go_loopw [7, 8] (fun v i wr => ∃ k : Nat, k ≤ n ∧ i = .int .i64 k ∧ Hid (wr.ownsRow w.heap.size 68 5 v (if p < k then k + 1 else k) (flat (fun i => R.spl (ins (cut1 S p x) (p + 1) (rgt (S p) x) i)) (if p < k then k + 1 else k)) ∧ Below w.heap.size w wr)) (fun _ i _ => n - (intOf i).toNat)
  case atStart => exact ⟨0, Nat.zero_le _, rfl, hO1⟩
  case round =>
    clear hO1
    obtain ⟨k, hk, rfl, HH⟩ := hrel
    obtain ⟨vo, hvo⟩ : ∃ x, x = u7 := ⟨_, rfl⟩
    rw [← hvo] at HH ⊢
    clear hvo
    obtain ⟨N, hN⟩ : ∃ N, N = (if p < k then k + 1 else k) := ⟨_, rfl⟩
    rw [← hN] at HH
    have HNK : Hid (N = (if p < k then k + 1 else k) ∧ (¬ (k : Int) = (p : Int) → (if p < k + 1 then k + 1 + 1 else k + 1) = (if p < k then k + 1 else k) + 1)) := ⟨hN, fun e => by split <;> split <;> omega⟩
    have hTk : Hid (¬ (k : Int) = (p : Int) → S k = ins (cut1 S p x) (p + 1) (rgt (S p) x) N) := fun e => by
      rw [hN]
      by_cases q : p < k
      · have a1 : ¬ (k + 1 < p + 1) := by omega
        have a2 : ¬ (k + 1 = p + 1) := by omega
        have a3 : ¬ (k = p) := by omega
        simp only [q, if_true, ins, a1, a2, if_false, cut1, Nat.add_sub_cancel, a3]
      · have a1 : k < p + 1 := by omega
        have a3 : ¬ (k = p) := by omega
        simp only [q, if_false, ins, a1, if_true, cut1, a3]
    have HTp : Hid (k = p → ∀ i, i < 2 → ins (cut1 S p x) (p + 1) (rgt (S p) x) (N + i) = if i = 0 then lft (S k) x else rgt (S k) x) := fun e i hi => by
      subst e
      rw [hN, if_neg (by omega)]
      match i, hi with
      | 0, _ => simp [ins, cut1]
      | 1, _ => simp [ins]
    have hN2 : N ≤ n + 1 := by rw [hN]; split <;> omega
    clear hN
    by_cases hkn : k < n
    · obtain ⟨r, hr⟩ : ∃ r, r = S k := ⟨_, rfl⟩
      have hc := H.out k hkn
      rw [← hr] at hc
      have c0 : wr.cell? ⟨b, k * 5, none⟩ = some (.int .i64 r.ly) := (HH.out.2.cell (World.block_lt_of_cell? _ _ (hc 0 (by omega)))).trans (hc 0 (by omega))
      have c1 : wr.cell? ⟨b, k * 5 + 1, none⟩ = some (.int .i64 r.xa) := (HH.out.2.cell (World.block_lt_of_cell? _ _ (hc 1 (by omega)))).trans (hc 1 (by omega))
      have c2 : wr.cell? ⟨b, k * 5 + 2, none⟩ = some (.int .i64 r.ya) := (HH.out.2.cell (World.block_lt_of_cell? _ _ (hc 2 (by omega)))).trans (hc 2 (by omega))
      have c3 : wr.cell? ⟨b, k * 5 + 3, none⟩ = some (.int .i64 r.xb) := (HH.out.2.cell (World.block_lt_of_cell? _ _ (hc 3 (by omega)))).trans (hc 3 (by omega))
      have c4 : wr.cell? ⟨b, k * 5 + 4, none⟩ = some (.int .i64 r.yb) := (HH.out.2.cell (World.block_lt_of_cell? _ _ (hc 4 (by omega)))).trans (hc 4 (by omega))
      have hkI : (k : Int) < n := by omega
      have HR : Hid (r = S k) := hr
      clear hc hr
      go_upto_region 6 with fail
      obtain ⟨wb, hwb⟩ : ∃ W, W = wr.alloc (.cells #[.int .i64 r.ly, .int .i64 r.xa, .int .i64 r.ya, .int .i64 r.xb, .int .i64 r.yb] 68) := ⟨_, rfl⟩
      obtain ⟨p9, h9⟩ : ∃ p, p = wr.heap.size := ⟨_, rfl⟩
      have HB : Hid (wb.ownsRow w.heap.size 68 5 vo N (flat (fun i => R.spl (ins (cut1 S p x) (p + 1) (rgt (S p) x) i)) N) ∧ Below w.heap.size w wb ∧ Blk wb p9 #[.int .i64 r.ly, .int .i64 r.xa, .int .i64 r.ya, .int .i64 r.xb, .int .i64 r.yb] 68) := by
        rw [hwb]
        exact ⟨ownsV_later HH.out.1 ((Below.refl _ _).alloc (Nat.le_refl _) _), box_stay HH.out.2 _, Blk.new h9⟩
      rw [← hwb, ← h9]
      clear hwb h9 c0 c1 c2 c3 c4
      have b0 := HB.out.2.2.cell (j := 0) rfl
      have b1 := HB.out.2.2.cell (j := 1) rfl
      have b2 := HB.out.2.2.cell (j := 2) rfl
      have b3 := HB.out.2.2.cell (j := 3) rfl
      have b4 := HB.out.2.2.cell (j := 4) rfl
      by_cases q0 : (k : Int) = (p : Int)
      · have hq0 : ((k : Int) != (p : Int)) = false := by simpa using q0
        have q1 : ¬ (x ≤ r.xa) := by rw [HR.out, show k = p from by omega]; have := HPX.out; omega
        have q2 : ¬ (r.xb ≤ x) := by rw [HR.out, show k = p from by omega]; have := HPX.out; omega
        rw [← HR.out] at HTp
        have hkp : k = p := by omega
        have HT2 := HTp.out hkp
        have HNP : Hid (k + 1 + 1 = N + 2) := by
          have h1 := HNK.out.1
          rw [if_neg (by omega)] at h1
          show _ = _
          omega
        have HPK : Hid (p < k + 1) := (show _ < _ from by omega)
        go_upto_region 9 with fail
        obtain ⟨x1, hx1⟩ : ∃ W, W = wb.alloc (.cells #[.int .i64 r.ly, .int .i64 r.xa, .int .i64 r.ya, .int .i64 r.xb, .int .i64 r.yb] 68) := ⟨_, rfl⟩
        obtain ⟨p10, h10⟩ : ∃ p, p = wb.heap.size := ⟨_, rfl⟩
        have X1 : Hid (Blk x1 p10 #[.int .i64 r.ly, .int .i64 r.xa, .int .i64 r.ya, .int .i64 r.xb, .int .i64 r.yb] 68 ∧ x1.ownsRow w.heap.size 68 5 vo N (flat (fun i => R.spl (ins (cut1 S p x) (p + 1) (rgt (S p) x) i)) N) ∧ Below w.heap.size w x1 ∧ Blk x1 p9 #[.int .i64 r.ly, .int .i64 r.xa, .int .i64 r.ya, .int .i64 r.xb, .int .i64 r.yb] 68 ∧ p9 < p10 ∧ w.heap.size ≤ p10 ∧ (∀ g, vo.ownBlock = some g → g ≠ p10)) := ⟨by rw [hx1]; exact Blk.new h10, by rw [hx1]; exact ownsV_later HB.out.1 ((Below.refl _ _).alloc (Nat.le_refl _) _), by rw [hx1]; exact box_stay HB.out.2.1 _, by rw [hx1]; exact HB.out.2.2.alloc _, by have := HB.out.2.2.lt; omega, by have := HB.out.2.1.size; omega, fun g hg => by have := (World.ownsRow.lt HB.out.1 g hg).2; omega⟩
        rw [← hx1, ← h10]
        clear hx1 h10 b0 b1 b2 b3 b4
        have d3 := X1.out.1.cell (j := 3) rfl
        have df : ∀ j, x1.frozen? ⟨p10, j, none⟩ = false := fun j => X1.out.1.frozen j
        go_upto_region 10 with fail
        obtain ⟨x2, hx2⟩ : ∃ W, W = x1.setCell ⟨p10, 3, none⟩ (.int .i64 x) := ⟨_, rfl⟩
        have key : ∀ g, g ≠ p10 → x2.heap[g]? = x1.heap[g]? := fun k hk => by rw [hx2]; exact Below.heap_setCell _ _ _ _ (by simpa using hk)
        have X2 : Hid (Blk x2 p10 #[.int .i64 (lft r x).ly, .int .i64 (lft r x).xa, .int .i64 (lft r x).ya, .int .i64 (lft r x).xb, .int .i64 (lft r x).yb] 68 ∧ x2.ownsRow w.heap.size 68 5 vo N (flat (fun i => R.spl (ins (cut1 S p x) (p + 1) (rgt (S p) x) i)) N) ∧ Below w.heap.size w x2 ∧ Blk x2 p9 #[.int .i64 r.ly, .int .i64 r.xa, .int .i64 r.ya, .int .i64 r.xb, .int .i64 r.yb] 68) := ⟨by rw [hx2]; exact X1.out.1.set 3 _ rfl, own_keep X1.out.2.1 fun g hg => key g (X1.out.2.2.2.2.2.2 g hg), by rw [hx2]; exact X1.out.2.2.1.setCell X1.out.2.2.2.2.2.1 _, (key p9 (by have := X1.out.2.2.2.2.1; omega)).trans X1.out.2.2.2.1⟩
        rw [← hx2]
        clear hx2 key d3 df X1
        have b0 := X2.out.2.2.2.cell (j := 0) rfl
        have b1 := X2.out.2.2.2.cell (j := 1) rfl
        have b2 := X2.out.2.2.2.cell (j := 2) rfl
        have b3 := X2.out.2.2.2.cell (j := 3) rfl
        have b4 := X2.out.2.2.2.cell (j := 4) rfl
        go_upto_region 11 with fail
        obtain ⟨x3, hx3⟩ : ∃ W, W = x2.alloc (.cells #[.int .i64 r.ly, .int .i64 r.xa, .int .i64 r.ya, .int .i64 r.xb, .int .i64 r.yb] 68) := ⟨_, rfl⟩
        obtain ⟨p11, h11⟩ : ∃ p, p = x2.heap.size := ⟨_, rfl⟩
        have X3 : Hid (Blk x3 p11 #[.int .i64 r.ly, .int .i64 r.xa, .int .i64 r.ya, .int .i64 r.xb, .int .i64 r.yb] 68 ∧ x3.ownsRow w.heap.size 68 5 vo N (flat (fun i => R.spl (ins (cut1 S p x) (p + 1) (rgt (S p) x) i)) N) ∧ Below w.heap.size w x3 ∧ Blk x3 p10 #[.int .i64 (lft r x).ly, .int .i64 (lft r x).xa, .int .i64 (lft r x).ya, .int .i64 (lft r x).xb, .int .i64 (lft r x).yb] 68 ∧ p10 < p11 ∧ w.heap.size ≤ p11 ∧ (∀ g, vo.ownBlock = some g → g ≠ p11)) := ⟨by rw [hx3]; exact Blk.new h11, by rw [hx3]; exact ownsV_later X2.out.2.1 ((Below.refl _ _).alloc (Nat.le_refl _) _), by rw [hx3]; exact box_stay X2.out.2.2.1 _, by rw [hx3]; exact X2.out.1.alloc _, by have := X2.out.1.lt; omega, by have := X2.out.2.2.1.size; omega, fun g hg => by have := (World.ownsRow.lt X2.out.2.1 g hg).2; omega⟩
        rw [← hx3, ← h11]
        clear hx3 h11 b0 b1 b2 b3 b4 X2
        have d1 := X3.out.1.cell (j := 1) rfl
        have df : ∀ j, x3.frozen? ⟨p11, j, none⟩ = false := fun j => X3.out.1.frozen j
        go_upto_region 12 with fail
        obtain ⟨x4, hx4⟩ : ∃ W, W = x3.setCell ⟨p11, 1, none⟩ (.int .i64 x) := ⟨_, rfl⟩
        have key : ∀ g, g ≠ p11 → x4.heap[g]? = x3.heap[g]? := fun k hk => by rw [hx4]; exact Below.heap_setCell _ _ _ _ (by simpa using hk)
        have X4 : Hid (Blk x4 p11 #[.int .i64 (rgt r x).ly, .int .i64 (rgt r x).xa, .int .i64 (rgt r x).ya, .int .i64 (rgt r x).xb, .int .i64 (rgt r x).yb] 68 ∧ x4.ownsRow w.heap.size 68 5 vo N (flat (fun i => R.spl (ins (cut1 S p x) (p + 1) (rgt (S p) x) i)) N) ∧ Below w.heap.size w x4 ∧ Blk x4 p10 #[.int .i64 (lft r x).ly, .int .i64 (lft r x).xa, .int .i64 (lft r x).ya, .int .i64 (lft r x).xb, .int .i64 (lft r x).yb] 68) := ⟨by rw [hx4]; exact X3.out.1.set 1 _ rfl, own_keep X3.out.2.1 fun g hg => key g (X3.out.2.2.2.2.2.2 g hg), by rw [hx4]; exact X3.out.2.2.1.setCell X3.out.2.2.2.2.2.1 _, (key p10 (by have := X3.out.2.2.2.2.1; omega)).trans X3.out.2.2.2.1⟩
        rw [← hx4]
        clear hx4 key d1 df X3
        have b0 : x4.cell? ⟨p10, 0, none⟩ = some (.int .i64 r.ly) := X4.out.2.2.2.cell (j := 0) rfl
        have m0 : x4.cell? ⟨p11, 0, none⟩ = some (.int .i64 r.ly) := X4.out.1.cell (j := 0) rfl
        have b1 : x4.cell? ⟨p10, 1, none⟩ = some (.int .i64 r.xa) := X4.out.2.2.2.cell (j := 1) rfl
        have m1 : x4.cell? ⟨p11, 1, none⟩ = some (.int .i64 x) := X4.out.1.cell (j := 1) rfl
        have b2 : x4.cell? ⟨p10, 2, none⟩ = some (.int .i64 r.ya) := X4.out.2.2.2.cell (j := 2) rfl
        have m2 : x4.cell? ⟨p11, 2, none⟩ = some (.int .i64 r.ya) := X4.out.1.cell (j := 2) rfl
        have b3 : x4.cell? ⟨p10, 3, none⟩ = some (.int .i64 x) := X4.out.2.2.2.cell (j := 3) rfl
        have m3 : x4.cell? ⟨p11, 3, none⟩ = some (.int .i64 r.xb) := X4.out.1.cell (j := 3) rfl
        have b4 : x4.cell? ⟨p10, 4, none⟩ = some (.int .i64 r.yb) := X4.out.2.2.2.cell (j := 4) rfl
        have m4 : x4.cell? ⟨p11, 4, none⟩ = some (.int .i64 r.yb) := X4.out.1.cell (j := 4) rfl
        obtain ⟨x5, hx5⟩ : ∃ W, W = x4.alloc (.cells #[.int .i64 r.ly, .int .i64 r.xa, .int .i64 r.ya, .int .i64 x, .int .i64 r.yb, .int .i64 r.ly, .int .i64 x, .int .i64 r.ya, .int .i64 r.xb, .int .i64 r.yb] 68) := ⟨_, rfl⟩
        have X5 : Hid (SegV x5 x4.heap.size 68 2 5 (fun i j => R.scell (if i = 0 then lft r x else rgt r x) j) ∧ x5.ownsRow w.heap.size 68 5 vo N (flat (fun i => R.spl (ins (cut1 S p x) (p + 1) (rgt (S p) x) i)) N) ∧ Below w.heap.size w x5) := by
          refine ⟨⟨#[.int .i64 r.ly, .int .i64 r.xa, .int .i64 r.ya, .int .i64 x, .int .i64 r.yb, .int .i64 r.ly, .int .i64 x, .int .i64 r.ya, .int .i64 r.xb, .int .i64 r.yb], by rw [hx5]; exact heap_alloc_new _ _, fun i hi j hj => ?_⟩, by rw [hx5]; exact ownsV_later X4.out.2.1 ((Below.refl _ _).alloc (Nat.le_refl _) _), by rw [hx5]; exact box_stay X4.out.2.2.1 _⟩
          match i, hi, j, hj with
          | 0, _, 0, _ => rfl
          | 0, _, 1, _ => rfl
          | 0, _, 2, _ => rfl
          | 0, _, 3, _ => rfl
          | 0, _, 4, _ => rfl
          | 1, _, 0, _ => rfl
          | 1, _, 1, _ => rfl
          | 1, _, 2, _ => rfl
          | 1, _, 3, _ => rfl
          | 1, _, 4, _ => rfl
        have HX5 : Hid (x5 = x4.alloc (.cells #[.int .i64 r.ly, .int .i64 r.xa, .int .i64 r.ya, .int .i64 x, .int .i64 r.yb, .int .i64 r.ly, .int .i64 x, .int .i64 r.ya, .int .i64 r.xb, .int .i64 r.yb] 68)) := hx5
        clear hx5
        go_wp2_with (first | (at_builtin; rw [← HX5.out]; refine R.pushJ rfl (.tmp 48) (.tmp 51) rfl x5 w.heap.size vo N _ (by simp [Act.eval]) X5.out.2.1 x4.heap.size 2 2 (fun i => if i = 0 then lft r x else rgt r x) (by simp [Act.eval]) X5.out.1 (by omega) (by omega) X5.out.2.2.size ?_; intro v2 w2 ho2 hb2 hk2; have H2 : Hid (w2.ownsRow w.heap.size 68 5 v2 (if p < k + 1 then k + 1 + 1 else k + 1) (flat (fun i => R.spl (ins (cut1 S p x) (p + 1) (rgt (S p) x) i)) (if p < k + 1 then k + 1 + 1 else k + 1)) ∧ Below w.heap.size w w2) := ⟨by
              have e : flat (fun i => R.spl (ins (cut1 S p x) (p + 1) (rgt (S p) x) i)) N ++ flat (fun i => R.spl (if i = 0 then lft r x else rgt r x)) 2 = flat (fun i => R.spl (ins (cut1 S p x) (p + 1) (rgt (S p) x) i)) (N + 2) := by
                rw [flat_addF _ N 2]
                congr 1
                exact flat_congr fun i hi => by
                  show R.spl _ = R.spl (ins (cut1 S p x) (p + 1) (rgt (S p) x) (N + i))
                  rw [HT2 i hi]
              rw [if_pos HPK.out, show k + 1 + 1 = N + 2 from HNP.out, ← e]; exact ho2, X5.out.2.2.trans hb2⟩; clear ho2 hb2 hk2))
        go_roundw
        case rel => exact ⟨k + 1, by omega, by simp; omega, H2⟩
        case measure => simp [intOf]; omega
      · have hq0 : ((k : Int) != (p : Int)) = true := ne_int q0
        replace q0 : Hid _ := q0
        go_wp2_with (first | (at_builtin; refine R.push1 rfl (.tmp 38) (.tmp 40) rfl wb r rfl w.heap.size vo N (fun i => ins (cut1 S p x) (p + 1) (rgt (S p) x) i) (by simp [Act.eval]) HB.out.1 1 (by simp [Act.eval]) (by omega) HB.out.2.1.size ?_; intro v2 w2 ho2 hb2; have H2 : Hid (w2.ownsRow w.heap.size 68 5 v2 (N + 1) (flat (fun i => R.spl (ins (cut1 S p x) (p + 1) (rgt (S p) x) i)) (N + 1)) ∧ Below w.heap.size w w2) := ⟨by
              have e : flat (fun i => R.spl (if i = N then r else ins (cut1 S p x) (p + 1) (rgt (S p) x) i)) (N + 1) = flat (fun i => R.spl (ins (cut1 S p x) (p + 1) (rgt (S p) x) i)) (N + 1) := flat_congr fun i hi => by
                by_cases e : i = N
                · subst e; rw [if_pos rfl, HR.out]; exact congrArg R.spl (hTk.out q0.out)
                · simp only [e, if_false]
              rw [← e]; exact ho2, HB.out.2.1.trans hb2⟩; clear ho2 hb2))
        go_roundw
        case rel => exact ⟨k + 1, by omega, by simp, by rw [HNK.out.2 q0.out, ← HNK.out.1]; exact H2.out⟩
        case measure => simp [intOf]; omega
    · obtain rfl : k = n := by omega
      have HQ : Hid (R.OwJ w.heap.size wr.heap.size wr vo (k + 1) (fun i => ins (cut1 S p x) (p + 1) (rgt (S p) x) i) ∧ Below w.heap.size w wr) := by
        have e : N = k + 1 := by rw [HNK.out.1, if_pos hp]
        rw [e] at HH
        exact ⟨R.OwJ.of HH.out.1 (Nat.le_refl _), HH.out.2⟩
      clear H HH hTk HTp HNK
      go_wp2
      go_ret
      exact ⟨_, rfl, HQ.out⟩
theorem sCut_any {w : World} {b n cap : Nat} {S : Nat → R.G} {c x : Int} (h : SegV w b 68 n 5 (fun i j => R.scell (S i) j)) (hn : n ≤ 1048576) :
    Calls Try.prog 40 #[.slice (some ⟨b, 0, none⟩) n cap, .int .i64 c, .int .i64 x] w fun e w' => ∃ v, e = .returned v ∧ R.OwJ w.heap.size w'.heap.size w' v (cutN S n c x) (cutS S n c x) ∧ Below w.heap.size w w' := by
  by_cases hc : isCut S n c x
  · rw [show cutN S n c x = n + 1 by unfold cutN; rw [if_pos hc], show cutS S n c x = _ by unfold cutS; rw [if_pos hc]]
    obtain ⟨h1, h2, h3, h4⟩ := hc
    obtain ⟨p, rfl⟩ := Int.eq_ofNat_of_zero_le h1
    rw [Int.toNat_natCast] at h3 h4 ⊢
    exact sCut_yes h hn (by omega) h3 h4
  · rw [show cutN S n c x = n by unfold cutN; rw [if_neg hc], show cutS S n c x = S by unfold cutS; rw [if_neg hc]]
    refine sCut_no h hn fun k hk e h1 h2 => hc ?_
    subst e
    exact ⟨by omega, by omega, by rw [Int.toNat_natCast]; exact h1, by rw [Int.toNat_natCast]; exact h2⟩
end Go.Proofs.Ytclnmikneomccaa
