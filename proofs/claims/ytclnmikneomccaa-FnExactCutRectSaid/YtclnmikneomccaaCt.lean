/- A rectangle cut: the program's contract. -/
import Derived.Test.YtclnmikneomccaaIt
namespace Go.Proofs.Ytclnmikneomccaa
open Go.RowKit Go.Maps
set_option linter.unusedVariables false
set_option linter.unusedSimpArgs false
theorem own_set {w : World} {lo g n cp p j : Nat} {S T : Nat → R.G} {u : Value} (h : w.ownsRow lo 68 5 (.slice (some ⟨g, 0, none⟩) n cp) n (flat (fun i => R.spl (S i)) n)) (hp : p < n) (hj : j < 5)
    (hT : ∀ i, i < n → ∀ l, l < 5 → R.scell (T i) l = if i = p ∧ l = j then u else R.scell (S i) l) : (w.setCell ⟨g, p * 5 + j, none⟩ u).ownsRow lo 68 5 (.slice (some ⟨g, 0, none⟩) n cp) n (flat (fun i => R.spl (T i)) n) := by
  have hFl : ∀ T : Nat → R.G, (flat (fun j => R.spl (T j)) n).length = n * 5 := fun T => flat_len (m := 5) (fun _ => rfl) _
  obtain ⟨h0, ⟨e, _⟩ | ⟨g', cap, cur, hv, hg, hh, h1, h2, h3, h4⟩⟩ := h
  · simp at e
  · simp only [Value.slice.injEq, Option.some.injEq, Addr.mk.injEq] at hv
    obtain ⟨⟨rfl, _, _⟩, _, rfl⟩ := hv
    have hb : Blk (w.setCell ⟨g, p * 5 + j, none⟩ u) g (cur.setIfInBounds (p * 5 + j) u) 68 := Blk.set (show Blk w g cur 68 from hh) (p * 5 + j) u rfl
    refine ⟨hFl T, Or.inr ⟨g, cp, _, rfl, hg, hb, h1, h2, by simpa using h3, ?_⟩⟩
    apply List.ext_getElem?
    intro k
    by_cases hk : k < n * 5
    · obtain ⟨i, l, rfl, hl⟩ : ∃ i l, k = i * 5 + l ∧ l < 5 := ⟨k / 5, k % 5, by omega, by omega⟩
      have hi : i < n := by omega
      have e1 : (cur.toList.take (n * 5))[i * 5 + l]? = (flat (fun i => R.spl (S i)) n)[i * 5 + l]? := by rw [h4]
      rw [List.getElem?_take_of_lt hk, flat_at (m := 5) (fun _ => rfl) hi hl, R.spl_at _ _ hl, Array.getElem?_toList] at e1
      rw [List.getElem?_take_of_lt hk, flat_at (m := 5) (fun _ => rfl) hi hl, R.spl_at _ _ hl, hT i hi l hl, Array.getElem?_toList, Array.getElem?_setIfInBounds]
      have hsz : p * 5 + j < cur.size := by rw [h3]; have := Nat.mul_le_mul_right 5 h1; omega
      by_cases c : i = p ∧ l = j
      · obtain ⟨rfl, rfl⟩ := c
        simp [hsz]
      · have c2 : ¬ (p * 5 + j = i * 5 + l) := by omega
        rw [if_neg c2, if_neg c, e1]
    · rw [List.getElem?_eq_none (by rw [List.length_take]; omega), List.getElem?_eq_none (by rw [hFl]; omega)]
theorem own_keep {w w' : World} {lo n : Nat} {v : Value} {xs : List Value} (h : w.ownsRow lo 68 5 v n xs) (hk : ∀ k, v.ownBlock = some k → w'.heap[k]? = w.heap[k]?) : w'.ownsRow lo 68 5 v n xs := by
  obtain ⟨h0, h1 | ⟨g, cap, cur, hv, hg, hh, r⟩⟩ := h
  · exact ⟨h0, Or.inl h1⟩
  · exact ⟨h0, Or.inr ⟨g, cap, cur, hv, hg, (hk g (by rw [hv]; rfl)).trans hh, r⟩⟩
theorem own_seg {w : World} {lo g n cp : Nat} {S : Nat → R.G} (h : w.ownsRow lo 68 5 (.slice (some ⟨g, 0, none⟩) n cp) n (flat (fun i => R.spl (S i)) n)) (hn : 0 < n) : SegV w g 68 n 5 (fun i j => R.scell (S i) j) := by
  rcases R.OwJ.of h (Nat.le_refl _) with ⟨e, _⟩ | ⟨g', cap, hv, _, _, hs⟩
  · omega
  · simp only [Value.slice.injEq, Option.some.injEq, Addr.mk.injEq] at hv
    obtain ⟨⟨rfl, _, _⟩, _⟩ := hv
    exact hs
/-- Whether the cut goes through. -/
@[reducible] def isCut (S : Nat → R.G) (n : Nat) (c x : Int) : Prop := 0 ≤ c ∧ c < n ∧ (S c.toNat).xa < x ∧ x < (S c.toNat).xb
def cutN (S : Nat → R.G) (n : Nat) (c x : Int) : Nat := if isCut S n c x then n + 1 else n
def lft (r : R.G) (x : Int) : R.G := ⟨r.ly, r.xa, r.ya, x, r.yb⟩
def rgt (r : R.G) (x : Int) : R.G := ⟨r.ly, x, r.ya, r.xb, r.yb⟩
def cut1 (S : Nat → R.G) (p : Nat) (x : Int) : Nat → R.G := fun j => if j = p then lft (S p) x else S j
def cutS (S : Nat → R.G) (n : Nat) (c x : Int) : Nat → R.G := if isCut S n c x then ins (cut1 S c.toNat x) (c.toNat + 1) (rgt (S c.toNat) x) else S
set_option maxRecDepth 20000 in
set_option maxHeartbeats 6400000 in
theorem iCut_any {w : World} {b n cap : Nat} {S : Nat → R.G} {c x : Int} (h : SegV w b 68 n 5 (fun i j => R.scell (S i) j)) (hn : n ≤ 1048576) :
    Calls Try.prog 41 #[.slice (some ⟨b, 0, none⟩) n cap, .int .i64 c, .int .i64 x] w fun e w' => ∃ v, e = .returned v ∧ R.OwJ w.heap.size w'.heap.size w' v (cutN S n c x) (cutS S n c x) ∧ Below w.heap.size w w' := by
  have HA : ∀ W, Below w.heap.size w W → Hid (SegV W b 68 n 5 (fun i j => R.scell (S i) j)) := fun W hb => h.below hb
  have hnI : (n : Int) ≤ 1048576 := by omega
  clear h
  go_enter Try.func41, Try.ntmps41
  go_wp2_with fail
  refine (iClone_any (HA w (Below.refl _ _)).out hn).mono ?_
  rintro e w1 ⟨v, rfl, ho, hb⟩
  obtain ⟨va, vc, ev⟩ := (R.OwJ.of ho (Nat.le_refl _)).shape
  subst ev
  have H1 : Hid (w1.ownsRow w.heap.size 68 5 (.slice va n vc) n (flat (fun i => R.spl (S i)) n) ∧ Below w.heap.size w w1) := ⟨ho, hb⟩
  clear ho hb
  by_cases c0 : c < 0
  · have HS : Hid (cutN S n c x = n ∧ cutS S n c x = S) := by
      have hno : ¬ isCut S n c x := fun h => by obtain ⟨h1, h2, h3, h4⟩ := h; omega
      exact ⟨by unfold cutN; rw [if_neg hno], by unfold cutS; rw [if_neg hno]⟩
    clear HA
    go_wp2
    go_ret
    exact ⟨_, rfl, by rw [HS.out.1, HS.out.2]; exact R.OwJ.of H1.out.1 (Nat.le_refl _), H1.out.2⟩
  by_cases c1 : (n : Int) ≤ c
  · have HS : Hid (cutN S n c x = n ∧ cutS S n c x = S) := by
      have hno : ¬ isCut S n c x := fun h => by obtain ⟨h1, h2, h3, h4⟩ := h; omega
      exact ⟨by unfold cutN; rw [if_neg hno], by unfold cutS; rw [if_neg hno]⟩
    clear HA
    go_wp2
    go_ret
    exact ⟨_, rfl, by rw [HS.out.1, HS.out.2]; exact R.OwJ.of H1.out.1 (Nat.le_refl _), H1.out.2⟩
  obtain ⟨p, rfl⟩ := Int.eq_ofNat_of_zero_le (show 0 ≤ c by omega)
  have hpn : p < n := by omega
  have hpI : (p : Int) < n := by omega
  have hwp : wrap64 ((p : Int) + 1) = (p : Int) + 1 := by unfold wrap64; omega
  obtain ⟨r, hr⟩ : ∃ r, r = S p := ⟨_, rfl⟩
  have k0 : w1.cell? ⟨b, p * 5, none⟩ = some (.int .i64 r.ly) := by rw [hr]; exact (HA w1 H1.out.2).out.cell hpn (show 0 < 5 by omega)
  have k1 : w1.cell? ⟨b, p * 5 + 1, none⟩ = some (.int .i64 r.xa) := by rw [hr]; exact (HA w1 H1.out.2).out.cell hpn (show 1 < 5 by omega)
  have k2 : w1.cell? ⟨b, p * 5 + 2, none⟩ = some (.int .i64 r.ya) := by rw [hr]; exact (HA w1 H1.out.2).out.cell hpn (show 2 < 5 by omega)
  have k3 : w1.cell? ⟨b, p * 5 + 3, none⟩ = some (.int .i64 r.xb) := by rw [hr]; exact (HA w1 H1.out.2).out.cell hpn (show 3 < 5 by omega)
  have k4 : w1.cell? ⟨b, p * 5 + 4, none⟩ = some (.int .i64 r.yb) := by rw [hr]; exact (HA w1 H1.out.2).out.cell hpn (show 4 < 5 by omega)
  have HR : Hid (r = S p) := hr
  clear hr
  by_cases c2 : x ≤ r.xa
  · have HS : Hid (cutN S n (p : Int) x = n ∧ cutS S n (p : Int) x = S) := by
      have hno : ¬ isCut S n (p : Int) x := fun h => by obtain ⟨h1, h2, h3, h4⟩ := h; rw [Int.toNat_natCast, ← HR.out] at h3; omega
      exact ⟨by unfold cutN; rw [if_neg hno], by unfold cutS; rw [if_neg hno]⟩
    clear HA
    go_wp2
    go_ret
    exact ⟨_, rfl, by rw [HS.out.1, HS.out.2]; exact R.OwJ.of H1.out.1 (Nat.le_refl _), H1.out.2⟩
  by_cases c3 : r.xb ≤ x
  · have HS : Hid (cutN S n (p : Int) x = n ∧ cutS S n (p : Int) x = S) := by
      have hno : ¬ isCut S n (p : Int) x := fun h => by obtain ⟨h1, h2, h3, h4⟩ := h; rw [Int.toNat_natCast, ← HR.out] at h4; omega
      exact ⟨by unfold cutN; rw [if_neg hno], by unfold cutS; rw [if_neg hno]⟩
    clear HA
    go_wp2
    go_ret
    exact ⟨_, rfl, by rw [HS.out.1, HS.out.2]; exact R.OwJ.of H1.out.1 (Nat.le_refl _), H1.out.2⟩
  have HS : Hid (cutN S n (p : Int) x = n + 1 ∧ cutS S n (p : Int) x = ins (cut1 S p x) (p + 1) (rgt r x)) := by
    have hyes : isCut S n (p : Int) x := ⟨by omega, by omega, by rw [Int.toNat_natCast, ← HR.out]; omega, by rw [Int.toNat_natCast, ← HR.out]; omega⟩
    exact ⟨by unfold cutN; rw [if_pos hyes], by unfold cutS; rw [if_pos hyes, Int.toNat_natCast, ← HR.out]⟩
  obtain ⟨g, hva, hgl, hgh⟩ : ∃ g, va = some ⟨g, 0, none⟩ ∧ w.heap.size ≤ g ∧ g < w1.heap.size := by
    obtain ⟨_, ⟨_, hz⟩ | ⟨g, cap', cur, hv, hg, hh, _⟩⟩ := H1.out.1
    · omega
    · simp only [Value.slice.injEq] at hv
      exact ⟨g, hv.1, hg, (Array.getElem?_eq_some_iff.1 hh).1⟩
  subst hva
  clear HA
  go_upto_region 5 with fail
  obtain ⟨w2, hw2⟩ : ∃ W, W = w1.alloc (.cells #[.int .i64 r.ly, .int .i64 r.xa, .int .i64 r.ya, .int .i64 r.xb, .int .i64 r.yb] 68) := ⟨_, rfl⟩
  obtain ⟨p8, h8⟩ : ∃ p, p = w1.heap.size := ⟨_, rfl⟩
  have H2 : Hid (Blk w2 p8 #[.int .i64 r.ly, .int .i64 r.xa, .int .i64 r.ya, .int .i64 r.xb, .int .i64 r.yb] 68 ∧ w2.ownsRow w.heap.size 68 5 (.slice (some ⟨g, 0, none⟩) n vc) n (flat (fun i => R.spl (S i)) n) ∧ Below w.heap.size w w2 ∧ p8 ≠ g ∧ w.heap.size ≤ p8) := ⟨by rw [hw2]; exact Blk.new h8, by rw [hw2]; exact ownsV_later H1.out.1 ((Below.refl _ _).alloc (Nat.le_refl _) _), by rw [hw2]; exact box_stay H1.out.2 _, by omega, by omega⟩
  rw [← hw2, ← h8]
  clear hw2 h8 k0 k1 k2 k3 k4
  have d1 := H2.out.1.cell (j := 1) rfl
  have df : ∀ j, w2.frozen? ⟨p8, j, none⟩ = false := fun j => H2.out.1.frozen j
  go_upto_region 6 with fail
  obtain ⟨w3, hw3⟩ : ∃ W, W = w2.setCell ⟨p8, 1, none⟩ (.int .i64 x) := ⟨_, rfl⟩
  have key3 : ∀ k, k ≠ p8 → w3.heap[k]? = w2.heap[k]? := fun k hk => by rw [hw3]; exact Below.heap_setCell _ _ _ _ (by simpa using hk)
  have H3 : Hid (Blk w3 p8 #[.int .i64 (rgt r x).ly, .int .i64 (rgt r x).xa, .int .i64 (rgt r x).ya, .int .i64 (rgt r x).xb, .int .i64 (rgt r x).yb] 68 ∧ w3.ownsRow w.heap.size 68 5 (.slice (some ⟨g, 0, none⟩) n vc) n (flat (fun i => R.spl (S i)) n) ∧ Below w.heap.size w w3) := ⟨by rw [hw3]; exact H2.out.1.set 1 _ rfl, own_keep H2.out.2.1 fun k hk => key3 k (by simp [Value.ownBlock] at hk; have := H2.out.2.2.2.1; omega), by rw [hw3]; exact H2.out.2.2.1.setCell H2.out.2.2.2.2 _⟩
  have HP : Hid (p8 ≠ g ∧ w.heap.size ≤ p8 ∧ w.heap.size ≤ g) := ⟨H2.out.2.2.2.1, H2.out.2.2.2.2, hgl⟩
  rw [← hw3]
  clear hw3 key3 d1 df H2
  have hseg := own_seg H3.out.2.1 (show 0 < n by omega)
  have e3 : w3.cell? ⟨g, p * 5 + 3, none⟩ = some (.int .i64 (S p).xb) := hseg.cell hpn (show 3 < 5 by omega)
  have ef : ∀ j, w3.frozen? ⟨g, j, none⟩ = false := fun j => hseg.frozen j
  clear hseg
  go_upto_region 7 with fail
  obtain ⟨w4, hw4⟩ : ∃ W, W = w3.setCell ⟨g, p * 5 + 3, none⟩ (.int .i64 x) := ⟨_, rfl⟩
  have H4 : Hid (Blk w4 p8 #[.int .i64 (rgt r x).ly, .int .i64 (rgt r x).xa, .int .i64 (rgt r x).ya, .int .i64 (rgt r x).xb, .int .i64 (rgt r x).yb] 68 ∧ w4.ownsRow w.heap.size 68 5 (.slice (some ⟨g, 0, none⟩) n vc) n (flat (fun i => R.spl (cut1 S p x i)) n) ∧ Below w.heap.size w w4) := by
    have hT : ∀ i, i < n → ∀ l, l < 5 → R.scell (cut1 S p x i) l = if i = p ∧ l = 3 then (.int .i64 x) else R.scell (S i) l := by
      intro i hi l hl
      by_cases e : i = p
      · subst e
        match l, hl with
        | 0, _ => simp [cut1, lft, R.scell]
        | 1, _ => simp [cut1, lft, R.scell]
        | 2, _ => simp [cut1, lft, R.scell]
        | 3, _ => simp [cut1, lft, R.scell]
        | 4, _ => simp [cut1, lft, R.scell]
      · simp [cut1, e]
    exact ⟨by rw [hw4]; exact H3.out.1.setOther (by simpa using HP.out.1) _, by rw [hw4]; exact own_set H3.out.2.1 hpn (by omega) hT, by rw [hw4]; exact H3.out.2.2.setCell HP.out.2.2 _⟩
  rw [← hw4]
  clear hw4 e3 ef
  have m0 : w4.cell? ⟨p8, 0, none⟩ = some (.int .i64 r.ly) := H4.out.1.cell (j := 0) rfl
  have m1 : w4.cell? ⟨p8, 1, none⟩ = some (.int .i64 x) := H4.out.1.cell (j := 1) rfl
  have m2 : w4.cell? ⟨p8, 2, none⟩ = some (.int .i64 r.ya) := H4.out.1.cell (j := 2) rfl
  have m3 : w4.cell? ⟨p8, 3, none⟩ = some (.int .i64 r.xb) := H4.out.1.cell (j := 3) rfl
  have m4 : w4.cell? ⟨p8, 4, none⟩ = some (.int .i64 r.yb) := H4.out.1.cell (j := 4) rfl
  go_wp2_with fail
  obtain ⟨w5, hw5⟩ : ∃ W, W = w4.alloc (.cells #[.int .i64 (rgt r x).ly, .int .i64 (rgt r x).xa, .int .i64 (rgt r x).ya, .int .i64 (rgt r x).xb, .int .i64 (rgt r x).yb] 68) := ⟨_, rfl⟩
  have H5 : Hid (Blk w5 w4.heap.size #[.int .i64 (rgt r x).ly, .int .i64 (rgt r x).xa, .int .i64 (rgt r x).ya, .int .i64 (rgt r x).xb, .int .i64 (rgt r x).yb] 68 ∧ w5.ownsRow w.heap.size 68 5 (.slice (some ⟨g, 0, none⟩) n vc) n (flat (fun i => R.spl (cut1 S p x i)) n) ∧ Below w.heap.size w w5) := ⟨by rw [hw5]; exact Blk.new rfl, by rw [hw5]; exact ownsV_later H4.out.2.1 ((Below.refl _ _).alloc (Nat.le_refl _) _), by rw [hw5]; exact box_stay H4.out.2.2 _⟩
  have hwe : w4.alloc (.cells #[.int .i64 r.ly, .int .i64 x, .int .i64 r.ya, .int .i64 r.xb, .int .i64 r.yb] 68) = w5 := by rw [hw5]; rfl
  rw [hwe]
  have hg4 : w4.heap.size ≠ g := by have := (own_seg H4.out.2.1 (show 0 < n by omega)).lt; omega
  have hins := iInsert_any (i := p + 1) H5.out.2.1 (by omega) H5.out.2.2.size H5.out.1 (fun k hk => by simp [Value.ownBlock] at hk; omega) (by omega) hn
  rw [show ((p + 1 : Nat) : Int) = (p : Int) + 1 by omega] at hins
  clear hwe hw5 hg4 m0 m1 m2 m3 m4
  refine hins.mono ?_
  rintro e w6 ⟨v6, rfl, ho6, hb6⟩
  have H6 : Hid (R.OwJ w.heap.size w6.heap.size w6 v6 (n + 1) (ins (cut1 S p x) (p + 1) (rgt r x)) ∧ Below w.heap.size w w6) := ⟨R.OwJ.of ho6 (Nat.le_refl _), H5.out.2.2.trans hb6⟩
  obtain ⟨oa, oc, e6⟩ := H6.out.1.shape
  subst e6
  clear hins ho6 hb6
  go_wp2
  go_ret
  exact ⟨_, rfl, by rw [HS.out.1, HS.out.2]; exact H6.out.1, H6.out.2⟩
end Go.Proofs.Ytclnmikneomccaa
