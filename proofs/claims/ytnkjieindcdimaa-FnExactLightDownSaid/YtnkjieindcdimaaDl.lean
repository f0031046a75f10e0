/- One light taken out of a list of lights in its place: contracts. -/
import Derived.Test.YtnkjieindcdimaaHs
import Derived.Test.YtnkjieindcdimaaCl
import Derived.Lib.SliceRun
namespace Go.Proofs.Ytnkjieindcdimaa
open Go.RowKit Go.Maps
set_option linter.unusedVariables false
set_option linter.unusedSimpArgs false
/-- Place i of a list that lacks place t, in the whole list. -/
def sk (t i : Nat) : Nat := if i < t then i else i + 1
/-- What lies at place a once the lights from t + 1 up to d have been moved down. -/
def mv (t d a : Nat) : Nat := if t ≤ a ∧ a < d then a + 1 else a
theorem mv_start (t a : Nat) : mv t t a = a := by unfold mv; rw [if_neg (by omega)]
theorem mv_here {t d i : Nat} (h : i = d + 1) : mv t d i = i := by unfold mv; rw [if_neg (by omega)]
theorem mv_new {t d : Nat} (h : t ≤ d) : mv t (d + 1) d = d + 1 := by unfold mv; rw [if_pos (by omega)]
theorem mv_old {t d a : Nat} (h : a ≠ d) : mv t (d + 1) a = mv t d a := by
  unfold mv
  by_cases c : t ≤ a ∧ a < d
  · rw [if_pos c, if_pos (by omega)]
  · rw [if_neg c, if_neg (by omega)]
theorem mv_sk {t d a : Nat} (h : a < d) : mv t d a = sk t a := by
  unfold mv sk
  by_cases c : a < t
  · rw [if_pos c, if_neg (by omega)]
  · rw [if_neg c, if_pos (by omega)]
theorem Onl.setCell {g : Nat} {w W : World} (h : Onl g w W) (j : Nat) (v : Value) : Onl g w (W.setCell ⟨g, j, none⟩ v) :=
  ⟨h.below.setCell (by exact Nat.le_refl _) v, fun k hk hn => (Below.heap_setCell _ _ _ _ (by exact hn)).trans (h.rest k hk hn)⟩
theorem Gone.onl {b q nb n t g : Nat} {B : Int → Int → Int} {L : Nat → Li} {w w' : World} (h : Gone b q nb B n t L w) (ho : Onl g w w') (hb : b ≠ g) (hq : q ≠ g) : Gone b q nb B n t L w' := by
  refine ⟨?_, ho.cell h.cell (by exact hq), h.fine, h.says⟩
  obtain ⟨D, ⟨es, c, n1, n2⟩, h2, h3⟩ := h.book
  exact ⟨D, ⟨es, c, (ho.rest b (Array.getElem?_eq_some_iff.1 n1).1 hb).trans n1, n2⟩, h2, h3⟩
theorem zero105 (w : World) : (zeroValue 105).run Try.prog w = .ok (.agg #[.int .i64 0, .int .i64 0, .int .i64 0, .slice none 0 0, .int .i64 0, .int .i64 0]) w := by kernel_rfl
/-- 'clear(list[d:])', one light. -/
theorem run_clear_lit {w : World} {g d n c : Nat} {f : Nat → Nat → Value} (ty : TypeId) (h : SegV w g 105 n 6 f) (hd : d < n) :
    (Builtin.clear_ #[51] ty #[.slice (some ⟨g, d * 6, none⟩) 1 c]).run Try.prog w = .ok (.tuple #[]) (w.setCells g (d * 6) [.int .i64 0, .int .i64 0, .int .i64 0, .slice none 0 0, .int .i64 0, .int .i64 0]) := by
  have hz : (Builtin.zeroCells (Value.agg #[.int .i64 0, .int .i64 0, .int .i64 0, .slice none 0 0, .int .i64 0, .int .i64 0]).cells 1).toList = [.int .i64 0, .int .i64 0, .int .i64 0, .slice none 0 0, .int .i64 0, .int .i64 0] := by kernel_rfl
  have hst := run_storeCells_cells (P := Try.prog) g (d * 6) [.int .i64 0, .int .i64 0, .int .i64 0, .slice none 0 0, .int .i64 0, .int .i64 0] 0 w (by
    intro j hj
    rw [Nat.add_zero, h.cell hd (by simpa using hj)]
    rfl) (by intro j hj; exact h.frozen _) (by simp [Value.oneCell'])
  simp only [Nat.add_zero] at hst
  simp [Builtin.clear_, run_underlying Try.underlying51, zero105, hz, hst]
set_option maxRecDepth 20000 in
set_option maxHeartbeats 3200000 in
theorem delF_any {w : World} {lo hi g N C q b nb t : Nat} {B : Int → Int → Int} {L : Nat → Li} (h : OwLs lo hi w g (N + 1) L) (hhi : hi ≤ w.heap.size) (hG : Gone b q nb B (N + 1) t L w) (ht : t < N + 1) (hC : N + 1 ≤ C) (hn : N + 1 ≤ 1048576) (hq : q ≠ g) (hb : b ≠ g) :
    Calls Try.prog 94 #[.slice (some ⟨g, 0, none⟩) (N + 1) C, .func (.func 96) #[] #[.pointer (some ⟨q, 0, none⟩)]] w fun e w' => e = .returned (.slice (some ⟨g, 0, none⟩) N C) ∧ OwLs lo hi w' g N (fun i => L (sk t i)) ∧ Onl g w w' := by
  have HRD : Hid (RdL w (.slice (some ⟨g, 0, none⟩) (N + 1) C) (N + 1) L) := h.rd
  obtain ⟨PB, PC, q1, q2, q3, q4, q5⟩ := h
  have HQ : Hid (lo ≤ g ∧ g < hi ∧ (∀ a, a < N + 1 → lo ≤ PB a ∧ PB a < hi ∧ PB a ≠ g) ∧ ∀ i j, i < N + 1 → j < N + 1 → PB i = PB j → i = j) := ⟨q1, q2, fun a ha => ⟨(q4 a ha).1, (q4 a ha).2.1, fun e => by
    obtain ⟨c, hb, _⟩ := (q4 a ha).2.2
    obtain ⟨c', hb', _⟩ := q3
    rw [e, hb'] at hb
    simp at hb⟩, q5⟩
  have HS : ∀ W, Onl g w W → Hid ((∀ a, a < N + 1 → Seg W (PB a) 2 0 (L a).np (fun k => .int .i64 ((L a).p k))) ∧ Gone b q nb B (N + 1) t L W) := fun W ho => ⟨fun a ha => (q4 a ha).2.2.of_block (ho.rest _ (q4 a ha).2.2.lt (HQ.out.2.2.1 a ha).2.2), hG.onl ho hb hq⟩
  have H0 : Hid (SegV w g 105 (N + 1) 6 (fun a j => lcell (L (a)) (.slice (some ⟨PB (a), 0, none⟩) (L (a)).np (PC (a))) j) ∧ Gone b q nb B (N + 1) t L w) := ⟨q3, hG⟩
  have hgw : g < w.heap.size := by omega
  clear q1 q2 q3 q4 q5 hG hb hq
  have hnI : (N : Int) + 1 ≤ 1048576 := by omega
  have htI : (t : Int) < N + 1 := by omega
  have ht1 : ((t : Int) == -1) = false := by first | (simp; done) | (simp; omega)
  go_enter Try.func94, Try.ntmps94
  go_wp2_with fail
  refine (dix_any HRD.out H0.out.2 ht hn).mono ?_
  rintro e Y ⟨rfl, hbY⟩
  have HY : Hid (SegV Y g 105 (N + 1) 6 (fun a j => lcell (L (mv t t a)) (.slice (some ⟨PB (mv t t a), 0, none⟩) (L (mv t t a)).np (PC (mv t t a))) j) ∧ Onl g w Y) := ⟨(H0.out.1.below hbY).congr (fun a ha j hj => by rw [mv_start]), Onl.of_below hbY (Nat.le_of_lt hgw)⟩
  clear hbY H0 HRD
  go_wp2_with fail
  go_loopw [5, 6] (fun s5 s6 wr => ∃ d i : Nat, t ≤ d ∧ i ≤ N + 1 ∧ Hid (i = d + 1) ∧ s5 = .int .i64 d ∧ s6 = .int .i64 i ∧ Hid (SegV wr g 105 (N + 1) 6 (fun a j => lcell (L (mv t d a)) (.slice (some ⟨PB (mv t d a), 0, none⟩) (L (mv t d a)).np (PC (mv t d a))) j) ∧ Onl g w wr)) (fun _ s6 _ => N + 1 - (intOf s6).toNat)
  case atStart => exact ⟨t, t + 1, Nat.le_refl _, by omega, rfl, rfl, by simp, HY.out.1, HY.out.2⟩
  case round =>
    obtain ⟨d, i, htd, hiN, HI, rfl, rfl, HR⟩ := hrel
    by_cases hin : i < N + 1
    · obtain ⟨x, hx⟩ : ∃ x, x = L i := ⟨_, rfl⟩
      obtain ⟨m, hm⟩ : ∃ m, m = (L i).np := ⟨_, rfl⟩
      obtain ⟨pb, hpb⟩ : ∃ pb, pb = PB i := ⟨_, rfl⟩
      obtain ⟨pc, hpc⟩ : ∃ pc, pc = PC i := ⟨_, rfl⟩
      have hdI : (d : Int) < N + 1 := by have := HI.out; omega
      have hdN : d < N + 1 := by have := HI.out; omega
      have hiI : (i : Int) < N + 1 := by omega
      have c0 : wr.cell? ⟨g, i * 6, none⟩ = some (.int .i64 x.id) := by
        have := HR.out.1.cell hin (show 0 < 6 by omega)
        rw [mv_here HI.out, ← hm, ← hx, ← hpb, ← hpc] at this
        exact this
      have c1 : wr.cell? ⟨g, i * 6 + 1, none⟩ = some (.int .i64 x.fr) := by
        have := HR.out.1.cell hin (show 1 < 6 by omega)
        rw [mv_here HI.out, ← hm, ← hx, ← hpb, ← hpc] at this
        exact this
      have c2 : wr.cell? ⟨g, i * 6 + 2, none⟩ = some (.int .i64 x.tt) := by
        have := HR.out.1.cell hin (show 2 < 6 by omega)
        rw [mv_here HI.out, ← hm, ← hx, ← hpb, ← hpc] at this
        exact this
      have c3 : wr.cell? ⟨g, i * 6 + 3, none⟩ = some (.slice (some ⟨pb, 0, none⟩) m pc) := by
        have := HR.out.1.cell hin (show 3 < 6 by omega)
        rw [mv_here HI.out, ← hm, ← hx, ← hpb, ← hpc] at this
        exact this
      have c4 : wr.cell? ⟨g, i * 6 + 4, none⟩ = some (.int .i64 x.fi) := by
        have := HR.out.1.cell hin (show 4 < 6 by omega)
        rw [mv_here HI.out, ← hm, ← hx, ← hpb, ← hpc] at this
        exact this
      have c5 : wr.cell? ⟨g, i * 6 + 5, none⟩ = some (.int .i64 x.wd) := by
        have := HR.out.1.cell hin (show 5 < 6 by omega)
        rw [mv_here HI.out, ← hm, ← hx, ← hpb, ← hpc] at this
        exact this
      have HX : Hid (x = L i ∧ m = (L i).np ∧ pb = PB i ∧ pc = PC i) := ⟨hx, hm, hpb, hpc⟩
      have HCl : Calls Try.prog 96 #[.agg #[.int .i64 x.id, .int .i64 x.fr, .int .i64 x.tt, .slice (some ⟨pb, 0, none⟩) m pc, .int .i64 x.fi, .int .i64 x.wd], .pointer (some ⟨q, 0, none⟩)] (wr.alloc (.cells #[.int .i64 x.id, .int .i64 x.fr, .int .i64 x.tt, .slice (some ⟨pb, 0, none⟩) m pc, .int .i64 x.fi, .int .i64 x.wd] 105)) fun e w' => e = .returned (.bool false) ∧ Below (wr.alloc (.cells #[.int .i64 x.id, .int .i64 x.fr, .int .i64 x.tt, .slice (some ⟨pb, 0, none⟩) m pc, .int .i64 x.fi, .int .i64 x.wd] 105)).heap.size (wr.alloc (.cells #[.int .i64 x.id, .int .i64 x.fr, .int .i64 x.tt, .slice (some ⟨pb, 0, none⟩) m pc, .int .i64 x.fi, .int .i64 x.wd] 105)) w' := by
        have hbe : Below wr.heap.size wr (wr.alloc (.cells #[.int .i64 x.id, .int .i64 x.fr, .int .i64 x.tt, .slice (some ⟨pb, 0, none⟩) m pc, .int .i64 x.fi, .int .i64 x.wd] 105)) := (Below.refl _ _).alloc (Nat.le_refl _) _
        obtain ⟨k1, k2⟩ := (HS wr HR.out.2).out
        have hG := k2.later hbe
        have hs := hG.says i hin
        rw [decide_eq_false (by have := HI.out; omega), ← hx] at hs
        have hf := hG.fine i hin
        have hp : RdRow wr (.slice (some ⟨PB i, 0, none⟩) (L i).np (PC i)) (L i).np (L i).p := (k1 i hin).rd
        rw [← hm, ← hx] at hf
        rw [← hm, ← hx, ← hpb, ← hpc] at hp
        have := dcl_any x hG.book (hp.later hbe) hf hG.cell
        rw [hs] at this
        exact this
      clear hx hm hpb hpc HS
      have hwl := HR.out.1.lt
      go_wp2_with (first | (go_at_call 96; refine HCl.mono ?_; rintro e w1 ⟨rfl, hb1⟩; have HB1 : Hid (Below wr.heap.size wr w1) := box_step ((Below.refl _ _).alloc (Nat.le_refl _) _) hb1 (Nat.le_refl _); have hZ := newOld hb1; have y0 := hZ.cell (j := 0) (v := .int .i64 x.id) rfl; have y1 := hZ.cell (j := 1) (v := .int .i64 x.fr) rfl; have y2 := hZ.cell (j := 2) (v := .int .i64 x.tt) rfl; have y3 := hZ.cell (j := 3) (v := .slice (some ⟨pb, 0, none⟩) m pc) rfl; have y4 := hZ.cell (j := 4) (v := .int .i64 x.fi) rfl; have y5 := hZ.cell (j := 5) (v := .int .i64 x.wd) rfl; have hzl := hZ.lt; have HN1 : Hid (SegV w1 g 105 (N + 1) 6 (fun a j => lcell (L (mv t d a)) (.slice (some ⟨PB (mv t d a), 0, none⟩) (L (mv t d a)).np (PC (mv t d a))) j)) := HR.out.1.below HB1.out; have a0 := HN1.out.cell hdN (show 0 < 6 by omega); have a1 := HN1.out.cell hdN (show 1 < 6 by omega); have a2 := HN1.out.cell hdN (show 2 < 6 by omega); have a3 := HN1.out.cell hdN (show 3 < 6 by omega); have a4 := HN1.out.cell hdN (show 4 < 6 by omega); have a5 := HN1.out.cell hdN (show 5 < 6 by omega); have fz : ∀ j, w1.frozen? ⟨g, j, none⟩ = false := fun j => HN1.out.frozen j; have hgl := HN1.out.lt; rw [Nat.add_zero] at a0; clear hb1 hZ HCl c0 c1 c2 c3 c4 c5))
      go_roundw
      case rel =>
        have ei := HI.out
        obtain ⟨e1, e2, e3, e4⟩ := HX.out
        refine ⟨d + 1, i + 1, by omega, by omega, by show i + 1 = d + 1 + 1; omega, by simp, by simp, ?_, ?_⟩
        · refine SegV.congr (SegV.set (SegV.set (SegV.set (SegV.set (SegV.set (SegV.set HN1.out hdN (show 0 < 6 by omega) (.int .i64 x.id)) hdN (show 1 < 6 by omega) (.int .i64 x.fr)) hdN (show 2 < 6 by omega) (.int .i64 x.tt)) hdN (show 3 < 6 by omega) (.slice (some ⟨pb, 0, none⟩) m pc)) hdN (show 4 < 6 by omega) (.int .i64 x.fi)) hdN (show 5 < 6 by omega) (.int .i64 x.wd)) fun a ha j hj => ?_
          by_cases e : a = d
          · subst e
            rw [mv_new htd, ← ei, ← e2, ← e1, ← e3, ← e4]
            match j, hj with
            | 0, _ => simp [lcell]
            | 1, _ => simp [lcell]
            | 2, _ => simp [lcell]
            | 3, _ => simp [lcell]
            | 4, _ => simp [lcell]
            | 5, _ => simp [lcell]
          · rw [mv_old e]
            simp [e]
        · exact ((((((HR.out.2.trans (Onl.of_below HB1.out (Nat.le_of_lt HR.out.1.lt))).setCell _ _).setCell _ _).setCell _ _).setCell _ _).setCell _ _).setCell _ _
      case measure => simp [intOf]; omega
    · obtain rfl : d = N := by have := HI.out; omega
      obtain rfl : i = d + 1 := HI.out
      have hcl : ∀ ty c, (Builtin.clear_ #[51] ty #[.slice (some ⟨g, d * 6, none⟩) 1 c]).run Try.prog wr = .ok (.tuple #[]) (wr.setCells g (d * 6) [.int .i64 0, .int .i64 0, .int .i64 0, .slice none 0 0, .int .i64 0, .int .i64 0]) := fun ty c => run_clear_lit ty HR.out.1 (Nat.lt_succ_self d)
      have HE : Hid (OwLs lo hi (wr.setCells g (d * 6) [.int .i64 0, .int .i64 0, .int .i64 0, .slice none 0 0, .int .i64 0, .int .i64 0]) g d (fun i => L (sk t i)) ∧ Onl g w (wr.setCells g (d * 6) [.int .i64 0, .int .i64 0, .int .i64 0, .slice none 0 0, .int .i64 0, .int .i64 0])) := by
        have hdn := Nat.lt_succ_self d
        obtain ⟨p1, p2, p3, p4⟩ := HQ.out
        have hO : Onl g w (wr.setCells g (d * 6) [.int .i64 0, .int .i64 0, .int .i64 0, .slice none 0 0, .int .i64 0, .int .i64 0]) := ((((((HR.out.2).setCell _ _).setCell _ _).setCell _ _).setCell _ _).setCell _ _).setCell _ _
        have hsg := SegV.set (SegV.set (SegV.set (SegV.set (SegV.set (SegV.set HR.out.1 hdn (show 0 < 6 by omega) (.int .i64 0)) hdn (show 1 < 6 by omega) (.int .i64 0)) hdn (show 2 < 6 by omega) (.int .i64 0)) hdn (show 3 < 6 by omega) (.slice none 0 0)) hdn (show 4 < 6 by omega) (.int .i64 0)) hdn (show 5 < 6 by omega) (.int .i64 0)
        have hk : ∀ a, a < d → sk t a < d + 1 := fun a ha => by unfold sk; split <;> omega
        refine ⟨⟨fun a => PB (sk t a), fun a => PC (sk t a), p1, p2, ?_, fun a ha => ⟨(p3 _ (hk a ha)).1, (p3 _ (hk a ha)).2.1, (HS _ hO).out.1 _ (hk a ha)⟩, fun a c ha hc e => ?_⟩, hO⟩
        · obtain ⟨c, hb, hc⟩ := hsg
          refine ⟨c, hb, fun a ha j hj => ?_⟩
          rw [hc a (by omega) j hj]
          have : a ≠ d := by omega
          simp [this, mv_sk ha]
        · have := p4 _ _ (hk a ha) (hk c hc) e
          unfold sk at this
          split at this <;> split at this <;> omega
      clear HS
      go_wp2
      go_ret
      exact ⟨rfl, HE.out.1, HE.out.2⟩
end Go.Proofs.Ytnkjieindcdimaa
