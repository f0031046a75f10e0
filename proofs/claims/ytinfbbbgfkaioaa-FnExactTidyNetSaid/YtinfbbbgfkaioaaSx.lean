/- The map of the slots, in both packages: contracts. -/
import Derived.Test.YtinfbbbgfkaioaaSp
import Derived.Test.YtinfbbbgfkaioaaIk
import Derived.Test.YtinfbbbgfkaioaaRz
namespace Go.Proofs.Ytinfbbbgfkaioaa
open Go.RowKit Go.Maps
set_option linter.unusedVariables false
set_option linter.unusedSimpArgs false
theorem lf_good {nodes slots : Int} {nf : Nat} {F : Nat → Fb} {nl : Nat} {L : Nat → Li} (h : Nt.lfault nodes slots nf F nl L = 0) : Nt.Good nodes slots nf F ∧ nl ≤ 40 ∧ Nt.AllOk nodes slots nf F nl L := by
  unfold Nt.lfault at h
  by_cases z : Nt.nfault nodes slots nf F = 0
  · rw [if_pos z] at h
    by_cases y : 40 < (nl : Int)
    · rw [if_pos y] at h; omega
    · rw [if_neg y] at h
      exact ⟨Nt.nf_good z, by omega, Nt.allOk h⟩
  · rw [if_neg z] at h; exact absurd h z
theorem Book.setOther {w : World} {b n : Nat} {B : Int → Int → Int} (h : Book w b n B) {p : Addr} (hp : b ≠ p.block) (u : Value) : Book (w.setCell p u) b n B := by
  obtain ⟨D, ⟨es, c, n1, n2⟩, h2⟩ := h
  exact ⟨D, ⟨es, c, (Below.heap_setCell _ _ _ _ hp).trans n1, n2⟩, h2⟩
/-- A result with a code and rows of m numbers that owns its memory, a block a row from its first cell on. -/
def OwnK (lo hi : Nat) (w : World) (c : Int) (v : Value) (n m : Nat) (F : Rm.Mx) : Prop := ((c ≠ 0 ∨ n = 0) ∧ ∃ ao cap, v = .slice ao 0 cap) ∨ ((c = 0 ∧ 0 < n) ∧ ∃ l : Lie, v = .slice (some ⟨l.b, 0, none⟩) n l.cap ∧ (∀ i, i < n → l.os i = 0 ∧ l.cs i = m) ∧ Mat lo hi w l n (fun _ => m) F)
set_option maxRecDepth 20000 in
set_option maxHeartbeats 3200000 in
theorem iSm_any {w : World} {ao lo : Option Addr} {nf cp n cl : Nat} {nodes slots : Int} {F : Nat → Fb} {L : Nat → Li} (h : Rf w (.slice ao nf cp) nf F) (hl : RdL w (.slice lo n cl) n L) (hf : nf ≤ 1048576) (hw : LFew n L) (hcp : nf ≤ cp) (hd : LBd n L) :
    Calls Try.prog 97 #[.agg #[.int .i64 nodes, .int .i64 slots, .slice ao nf cp], .slice lo n cl] w fun e w' => ∃ v, e = .returned (.agg #[.int .i64 (Nt.lfault nodes slots nf F n L), v]) ∧ OwnK w.heap.size w'.heap.size w' (Nt.lfault nodes slots nf F n L) v nf slots.toNat (fun f s => Nt.bk L n f s) ∧ Below w.heap.size w w' := by
  obtain ⟨X, hX⟩ : ∃ X, X = ((w.alloc (.cells #[.int .i64 nodes, .int .i64 slots, .slice ao nf cp] 37)).alloc (.cells #[.int .i64 0, .slice none 0 0] 132)) := ⟨_, rfl⟩
  have BX : Hid (Blk X w.heap.size #[.int .i64 nodes, .int .i64 slots, .slice ao nf cp] 37 ∧ Blk X (w.heap.size + 1) #[.int .i64 0, .slice none 0 0] 132 ∧ Below w.heap.size w X) := by rw [hX]; exact ⟨(Blk.new rfl).alloc _, Blk.new (by simp), ((Below.refl _ _).alloc (Nat.le_refl _) _).alloc (by simp) _⟩
  have CX : ∀ W, Below X.heap.size X W → W.cell? ⟨w.heap.size, 0, none⟩ = some (.int .i64 nodes) ∧ W.cell? ⟨w.heap.size, 1, none⟩ = some (.int .i64 slots) ∧ W.cell? ⟨w.heap.size, 2, none⟩ = some (.slice ao nf cp) :=
    fun W h => ⟨(BX.out.1.old h).cell rfl, (BX.out.1.old h).cell rfl, (BX.out.1.old h).cell rfl⟩
  have hXz : w.heap.size ≤ X.heap.size := Nat.le_of_lt BX.out.1.lt
  have H : ∀ W, Below X.heap.size X W → Hid (Rf W (.slice ao nf cp) nf F ∧ RdL W (.slice lo n cl) n L ∧ LFew n L ∧ LBd n L) := fun W hb => ⟨h.later (BX.out.2.2.trans (hb.mono hXz)), hl.later (BX.out.2.2.trans (hb.mono hXz)), hw, hd⟩
  clear h hl hw hd
  obtain ⟨c, hc⟩ : ∃ c, c = Nt.lfault nodes slots nf F n L := ⟨_, rfl⟩
  have HC : Hid (c = Nt.lfault nodes slots nf F n L) := hc
  rw [← hc]
  clear hc
  go_enter Try.func97, Try.ntmps97
  go_wp2_with fail
  rw [← hX]
  clear hX
  obtain ⟨x0, x1, x2⟩ := CX X (Below.refl _ _)
  go_wp2_with fail
  refine (iBook_any (H _ (Below.refl _ _)).out.1 (H _ (Below.refl _ _)).out.2.1 hcp hf (H _ (Below.refl _ _)).out.2.2.1 (H _ (Below.refl _ _)).out.2.2.2).mono ?_
  rintro e w1 ⟨hr, hb1⟩
  rw [← HC.out] at hr
  clear x0 x1 x2
  rcases hr with ⟨hz, rfl⟩ | ⟨hz, b, q, rfl, hb0, hq, hbk⟩
  · have hzb : (c != 0) = true := by simpa using hz
    have HZ : Hid (c ≠ 0) := hz
    have hB := BX.out.2.1.old hb1
    have y0 := hB.cell (j := 0) rfl
    have y1 := hB.cell (j := 1) rfl
    have f0 := hB.frozen
    have HB : Hid (Below X.heap.size X w1) := hb1
    clear hz hB hb1
    go_wp2
    refine bodyPost_ret (v := .agg #[.int .i64 c, .slice none 0 0]) (by simp [results, Try.results97, go_sem, y0, y1]) rfl ⟨_, rfl, Or.inl ⟨Or.inl HZ.out, _, _, rfl⟩, ?_⟩
    exact BX.out.2.2.trans (Below.setCell (Below.setCell (HB.out.mono hXz) (by simp) _) (by simp) _)
  · have hgood := lf_good (nodes := nodes) (slots := slots) (nf := nf) (F := F) (nl := n) (L := L) (by rw [← HC.out]; exact hz)
    have g1 := hgood.1.s1
    have g2 := hgood.1.s64
    have g3 := hgood.1.f14
    subst hz
    obtain ⟨S, hS⟩ : ∃ S : Nat, slots = (S : Int) := ⟨slots.toNat, by omega⟩
    have HSt : Hid (slots.toNat = S) := by show slots.toNat = S; omega
    rw [hS] at BX CX ⊢
    have hS64 : S ≤ 64 := by omega
    have hSI : (S : Int) ≤ 64 := by omega
    have hfI : (nf : Int) ≤ 14 := by omega
    obtain ⟨x0, x1, x2⟩ := CX w1 hb1
    have H1 : Hid (Book w1 b q (Nt.bk L n) ∧ Below X.heap.size X w1 ∧ X.heap.size ≤ b) := ⟨hbk, hb1, hb0⟩
    clear hbk hb1 hb0 hgood g1 g2 hS H
    go_wp2_with fail
    refine (zeroRows_any nf S _ (by omega) (by omega)).mono ?_
    rintro e w2 ⟨rfl, hmat, hb2⟩
    clear x0 x1 x2
    obtain ⟨l, hl⟩ : ∃ l : Lie, l = newLie w1.heap.size nf (fun _ => S) := ⟨_, rfl⟩
    have hlv : Value.slice (some ⟨w1.heap.size, 0, none⟩) nf nf = .slice (some ⟨l.b, 0, none⟩) nf l.cap := by rw [hl]; rfl
    have HLL : Hid (∀ i, i < nf → l.os i = 0 ∧ l.cs i = S) := by rw [hl]; exact fun i _ => ⟨rfl, rfl⟩
    obtain ⟨hi0, hhi⟩ : ∃ h, h = w2.heap.size := ⟨_, rfl⟩
    have H2 : Hid (Mat w1.heap.size hi0 w2 l nf (fun _ => S) (fun r t => if r < 0 ∨ (r = 0 ∧ t < 0) then Nt.bk L n r t else 0) ∧ Book w2 b q (Nt.bk L n) ∧ Blk w2 (w.heap.size + 1) #[.int .i64 0, .slice none 0 0] 132 ∧ Blk w2 w.heap.size #[.int .i64 nodes, .int .i64 S, .slice ao nf cp] 37 ∧ Below w.heap.size w w2 ∧ hi0 ≤ w2.heap.size) := by
      rw [hhi, hl]
      refine ⟨hmat.congr fun r t _ _ => ?_, H1.out.1.later hb2, (BX.out.2.1.old H1.out.2.1).old hb2, (BX.out.1.old H1.out.2.1).old hb2, BX.out.2.2.trans ((H1.out.2.1.trans (hb2.mono H1.out.2.1.size)).mono hXz), Nat.le_refl _⟩
      rw [if_neg (by omega)]
    have hw1z : w.heap.size + 1 < w1.heap.size := (BX.out.2.1.old H1.out.2.1).lt
    rw [hlv]
    clear hmat hb2 hlv hl hhi
    go_wp2_with fail
    go_loopw [29] (fun i wr => ∃ k : Nat, k ≤ nf ∧ i = .int .i64 k ∧ Hid (Mat w1.heap.size hi0 wr l nf (fun _ => S) (fun r t => if r < k ∨ (r = k ∧ t < 0) then Nt.bk L n r t else 0) ∧ Book wr b q (Nt.bk L n) ∧ Blk wr (w.heap.size + 1) #[.int .i64 0, .slice none 0 0] 132 ∧ Blk wr w.heap.size #[.int .i64 nodes, .int .i64 S, .slice ao nf cp] 37 ∧ Below w.heap.size w wr ∧ hi0 ≤ wr.heap.size)) (fun i _ => nf - (intOf i).toNat)
    case atStart => exact ⟨0, Nat.zero_le _, rfl, H2⟩
    case round =>
      obtain ⟨k, hk, rfl, HI⟩ := hrel
      by_cases hkn : k < nf
      · have d0 : wr.cell? ⟨l.b, k, none⟩ = some (.slice (some ⟨l.bs k, l.os k, none⟩) S (l.cs k)) := HI.out.1.cellTop hkn
        have x1 : wr.cell? ⟨w.heap.size, 1, none⟩ = some (.int .i64 S) := HI.out.2.2.2.1.cell rfl
        have hkI : (k : Int) < nf := by omega
        go_wp2_with fail
        clear d0 x1
        go_loopw [36] (fun i wr => ∃ j : Nat, j ≤ S ∧ i = .int .i64 j ∧ Hid (Mat w1.heap.size hi0 wr l nf (fun _ => S) (fun r t => if r < k ∨ (r = k ∧ t < j) then Nt.bk L n r t else 0) ∧ Book wr b q (Nt.bk L n) ∧ Blk wr (w.heap.size + 1) #[.int .i64 0, .slice none 0 0] 132 ∧ Blk wr w.heap.size #[.int .i64 nodes, .int .i64 S, .slice ao nf cp] 37 ∧ Below w.heap.size w wr ∧ hi0 ≤ wr.heap.size)) (fun i _ => S - (intOf i).toNat)
        case atStart => exact ⟨0, Nat.zero_le _, rfl, HI⟩
        case round =>
          obtain ⟨j, hj, rfl, HJ⟩ := hrel
          by_cases hjS : j < S
          · have e1 : wr.cell? ⟨l.bs k, l.os k + j, none⟩ = some (.int .i64 (if k < k ∨ (k = k ∧ j < j) then Nt.bk L n k j else 0)) := HJ.out.1.cellAt hkn hjS
            have e2 : ∀ z, wr.frozen? ⟨l.bs k, z, none⟩ = false := fun z => (HJ.out.1.row k hkn).frozen z
            have hjI : (j : Int) < S := by omega
            have wk : W64 (k : Int) := w64_small (by omega) (by omega)
            have wj : W64 (j : Int) := w64_small (by omega) (by omega)
            obtain ⟨d, hd⟩ : ∃ d, d = Nt.bk L n k j := ⟨_, rfl⟩
            have HD : Hid (d = Nt.bk L n k j) := hd
            clear hd
            have HN : Hid (Mat w1.heap.size hi0 (wr.setCell ⟨l.bs k, l.os k + j, none⟩ (.int .i64 d)) l nf (fun _ => S) (fun r t => if r < k ∨ (r = k ∧ t < (j + 1)) then Nt.bk L n r t else 0) ∧ Book (wr.setCell ⟨l.bs k, l.os k + j, none⟩ (.int .i64 d)) b q (Nt.bk L n) ∧ Blk (wr.setCell ⟨l.bs k, l.os k + j, none⟩ (.int .i64 d)) (w.heap.size + 1) #[.int .i64 0, .slice none 0 0] 132 ∧ Blk (wr.setCell ⟨l.bs k, l.os k + j, none⟩ (.int .i64 d)) w.heap.size #[.int .i64 nodes, .int .i64 S, .slice ao nf cp] 37 ∧ Below w.heap.size w (wr.setCell ⟨l.bs k, l.os k + j, none⟩ (.int .i64 d)) ∧ hi0 ≤ (wr.setCell ⟨l.bs k, l.os k + j, none⟩ (.int .i64 d)).heap.size) := by
              obtain ⟨i1, i2, i3, i4, i5, i6⟩ := HJ.out
              have hb1 := i1.rlo k hkn
              have hb2 := i1.rhi k hkn
              have hne : b ≠ l.bs k := fun e => by
                obtain ⟨es, cc, hm⟩ := i2.map
                obtain ⟨c', hc', _⟩ := i1.row k hkn
                rw [← e, hm] at hc'
                cases hc'
              refine ⟨(i1.set hkn hjS d).congr fun r t hr ht => ?_, i2.setOther hne _, i3.setOther (by show w.heap.size + 1 ≠ l.bs k; omega) _, i4.setOther (by show w.heap.size ≠ l.bs k; omega) _, i5.setCell (by show w.heap.size ≤ l.bs k; omega) _, by simpa using i6⟩
              by_cases e : r = k ∧ t = j
              · obtain ⟨rfl, rfl⟩ := e
                rw [if_pos ⟨rfl, rfl⟩, if_pos (Or.inr ⟨rfl, by omega⟩), HD.out]
              · rw [if_neg e]
                by_cases a1 : r < k ∨ (r = k ∧ t < j)
                · rw [if_pos a1, if_pos (by omega)]
                · rw [if_neg a1, if_neg (by omega)]
            go_wp2_with (first | (at_lookup; refine look_book HJ.out.2.1 rfl (.tmp 41) (.tmp 44) rfl k j wk wj rfl rfl ?_; rw [← HD.out]))
            go_roundw
            case rel => exact ⟨j + 1, by omega, by simp, HN⟩
            case measure => simp [intOf]; omega
          · obtain rfl : S = j := by omega
            have HN : Hid (Mat w1.heap.size hi0 wr l nf (fun _ => S) (fun r t => if r < (k + 1) ∨ (r = (k + 1) ∧ t < 0) then Nt.bk L n r t else 0) ∧ Book wr b q (Nt.bk L n) ∧ Blk wr (w.heap.size + 1) #[.int .i64 0, .slice none 0 0] 132 ∧ Blk wr w.heap.size #[.int .i64 nodes, .int .i64 S, .slice ao nf cp] 37 ∧ Below w.heap.size w wr ∧ hi0 ≤ wr.heap.size) := by
              obtain ⟨i1, i2⟩ := HJ.out
              refine ⟨i1.congr fun r t hr ht => ?_, i2⟩
              by_cases a1 : r < k ∨ (r = k ∧ t < S)
              · rw [if_pos a1, if_pos (by omega)]
              · rw [if_neg a1, if_neg (by omega)]
            go_wp2
            go_roundw
            case rel => exact ⟨k + 1, by omega, by simp, HN⟩
            case measure => simp [intOf]; omega
      · obtain rfl : nf = k := by omega
        have y0 := HI.out.2.2.1.cell (j := 0) rfl
        have y1 := HI.out.2.2.1.cell (j := 1) rfl
        have f0 := HI.out.2.2.1.frozen
        go_wp2
        refine bodyPost_ret (v := .agg #[.int .i64 0, .slice (some ⟨l.b, 0, none⟩) nf l.cap]) (by simp [results, Try.results97, go_sem, y0, y1]) rfl ⟨_, rfl, ?_, ?_⟩
        · rw [HSt.out]
          by_cases hn0 : nf = 0
          · exact Or.inl ⟨Or.inr hn0, _, _, by rw [hn0]⟩
          · refine Or.inr ⟨⟨rfl, by omega⟩, l, rfl, HLL.out, ?_⟩
            have hm2 : Mat w1.heap.size hi0 ((wr.setCell ⟨w.heap.size + 1, 0, none⟩ (.int .i64 0)).setCell ⟨w.heap.size + 1, 1, none⟩ (.slice (some ⟨l.b, 0, none⟩) nf l.cap)) l nf (fun _ => S) (fun r t => if r < nf ∨ (r = nf ∧ t < 0) then Nt.bk L n r t else 0) := HI.out.1.keep fun k h1 h2 => by
              rw [Below.heap_setCell _ _ _ _ (by show k ≠ w.heap.size + 1; omega), Below.heap_setCell _ _ _ _ (by show k ≠ w.heap.size + 1; omega)]
            exact (hm2.congr fun r t hr ht => by rw [if_pos (Or.inl hr)]).wide (by omega) (by simpa using HI.out.2.2.2.2.2)
        · exact Below.setCell (Below.setCell HI.out.2.2.2.2.1 (by simp) _) (by simp) _
end Go.Proofs.Ytinfbbbgfkaioaa
