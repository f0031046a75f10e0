/- slices.DeleteFunc of a list of lights of which two go: contract. -/
import Derived.Test.YtinfbbbgfkaioaaGq
namespace Go.Proofs.Ytinfbbbgfkaioaa
open Go.RowKit
set_option linter.unusedVariables false
set_option linter.unusedSimpArgs false
theorem Onl.setC {g : Nat} {w W : World} (h : Onl g w W) (j : Nat) (v : Value) : Onl g w (W.setCell ⟨g, j, none⟩ v) :=
  ⟨h.below.setCell (by exact Nat.le_refl _) v, fun k hk hn => (Below.heap_setCell _ _ _ _ (by exact hn)).trans (h.rest k hk hn)⟩
theorem SegV.setAt {w : World} {b n m : Nat} {t : TypeId} {f : Nat → Nat → Value} (h : SegV w b t n m f) {i j : Nat} (hi : i < n) (hj : j < m) (v : Value) (o : Nat) (ho : o = i * m + j) : SegV (w.setCell ⟨b, o, none⟩ v) b t n m (fun a c => if a = i ∧ c = j then v else f a c) := by
  subst ho
  exact SegV.set h hi hj v
theorem seg_nul2 {w : World} {g d n : Nat} {f : Nat → Nat → Value} (s0 : SegV w g 80 n 6 f) (hd : d + 1 < n) : SegV (w.setCells g (d * 6) nul2) g 80 d 6 f := by
  have s1 := SegV.setAt s0 (i := d) (j := 0) (by omega) (by omega) (.int .i64 0) (d * 6) (by omega)
  have s2 := SegV.setAt s1 (i := d) (j := 1) (by omega) (by omega) (.int .i64 0) (d * 6 + 1) (by omega)
  have s3 := SegV.setAt s2 (i := d) (j := 2) (by omega) (by omega) (.int .i64 0) (d * 6 + 2) (by omega)
  have s4 := SegV.setAt s3 (i := d) (j := 3) (by omega) (by omega) (.slice none 0 0) (d * 6 + 3) (by omega)
  have s5 := SegV.setAt s4 (i := d) (j := 4) (by omega) (by omega) (.int .i64 0) (d * 6 + 4) (by omega)
  have s6 := SegV.setAt s5 (i := d) (j := 5) (by omega) (by omega) (.int .i64 0) (d * 6 + 5) (by omega)
  have s7 := SegV.setAt s6 (i := d + 1) (j := 0) (by omega) (by omega) (.int .i64 0) (d * 6 + 6) (by omega)
  have s8 := SegV.setAt s7 (i := d + 1) (j := 1) (by omega) (by omega) (.int .i64 0) (d * 6 + 7) (by omega)
  have s9 := SegV.setAt s8 (i := d + 1) (j := 2) (by omega) (by omega) (.int .i64 0) (d * 6 + 8) (by omega)
  have s10 := SegV.setAt s9 (i := d + 1) (j := 3) (by omega) (by omega) (.slice none 0 0) (d * 6 + 9) (by omega)
  have s11 := SegV.setAt s10 (i := d + 1) (j := 4) (by omega) (by omega) (.int .i64 0) (d * 6 + 10) (by omega)
  have s12 := SegV.setAt s11 (i := d + 1) (j := 5) (by omega) (by omega) (.int .i64 0) (d * 6 + 11) (by omega)
  have hs : SegV ((((((((((((w.setCell ⟨g, d * 6, none⟩ (.int .i64 0)).setCell ⟨g, d * 6 + 1, none⟩ (.int .i64 0)).setCell ⟨g, d * 6 + 2, none⟩ (.int .i64 0)).setCell ⟨g, d * 6 + 3, none⟩ (.slice none 0 0)).setCell ⟨g, d * 6 + 4, none⟩ (.int .i64 0)).setCell ⟨g, d * 6 + 5, none⟩ (.int .i64 0)).setCell ⟨g, d * 6 + 6, none⟩ (.int .i64 0)).setCell ⟨g, d * 6 + 7, none⟩ (.int .i64 0)).setCell ⟨g, d * 6 + 8, none⟩ (.int .i64 0)).setCell ⟨g, d * 6 + 9, none⟩ (.slice none 0 0)).setCell ⟨g, d * 6 + 10, none⟩ (.int .i64 0)).setCell ⟨g, d * 6 + 11, none⟩ (.int .i64 0)) g 80 n 6 _ := s12
  obtain ⟨c, hb, hc⟩ := hs
  refine ⟨c, hb, fun a ha j hj => ?_⟩
  rw [hc a (by omega) j hj]
  have h1 : a ≠ d := by omega
  have h2 : a ≠ d + 1 := by omega
  simp [h1, h2]
theorem onl_nul2 {x w : World} {g d : Nat} (h : Onl g x w) : Onl g x (w.setCells g (d * 6) nul2) := ((((((((((((h.setC _ _).setC _ _).setC _ _).setC _ _).setC _ _).setC _ _).setC _ _).setC _ _).setC _ _).setC _ _).setC _ _).setC _ _)
set_option maxRecDepth 20000 in
set_option maxHeartbeats 3200000 in
theorem delG_any {w : World} {lo hi g M C q a b : Nat} {gu : Gu} {L : Nat → Li} (h : OwLs lo hi w g (M + 2) L) (hhi : hi ≤ w.heap.size) (hG : Two q gu (M + 2) a b L w) (ha : a < M + 2) (hb : b < M + 2) (hab : a ≠ b) (hC : M + 2 ≤ C) (hn : M + 2 ≤ 1048576) (hq : q ≠ g) :
    Calls Try.prog 53 #[.slice (some ⟨g, 0, none⟩) (M + 2) C, .func (.func 55) #[] #[.pointer (some ⟨q, 0, none⟩)]] w fun e w' => e = .returned (.slice (some ⟨g, 0, none⟩) M C) ∧ OwLs lo hi w' g M (fun i => L (two a b i)) ∧ Onl g w w' := by
  have HRD : Hid (RdL w (.slice (some ⟨g, 0, none⟩) (M + 2) C) (M + 2) L) := h.rd
  obtain ⟨PB, PC, q1, q2, q3, q4, q5⟩ := h
  obtain ⟨N, hN⟩ : ∃ N, N = M + 2 := ⟨_, rfl⟩
  rw [← hN] at HRD q3 q4 q5 hG ha hb hC hn ⊢
  have hNI : (N : Int) = M + 2 := by omega
  have HNM : Hid (N = M + 2) := hN
  have HQ : Hid (lo ≤ g ∧ g < hi ∧ (∀ i, i < N → lo ≤ PB i ∧ PB i < hi ∧ PB i ≠ g) ∧ ∀ i j, i < N → j < N → PB i = PB j → i = j) := ⟨q1, q2, fun a ha => ⟨(q4 a ha).1, (q4 a ha).2.1, fun e => by
    obtain ⟨c, hb, _⟩ := (q4 a ha).2.2
    obtain ⟨c', hb', _⟩ := q3
    rw [e, hb'] at hb
    simp at hb⟩, q5⟩
  have HS : ∀ W, Onl g w W → Hid ((∀ i, i < N → Seg W (PB i) 2 0 (L i).np (fun k => .int .i64 ((L i).p k))) ∧ Two q gu N a b L W) := fun W ho => ⟨fun i hi => (q4 i hi).2.2.of_block (ho.rest _ (q4 i hi).2.2.lt (HQ.out.2.2.1 i hi).2.2), hG.keep ho.rest hq⟩
  have H0 : Hid (SegV w g 80 N 6 (fun x j => lcell (L x) (.slice (some ⟨PB x, 0, none⟩) (L x).np (PC x)) j) ∧ Two q gu N a b L w) := ⟨q3, hG⟩
  have hgw : g < w.heap.size := by omega
  obtain ⟨r, hr⟩ : ∃ r, r = min a b := ⟨_, rfl⟩
  have hrN : r < N := by omega
  have hrI : (r : Int) < N := by omega
  have HR0 : Hid ((r = a ∨ r = b) ∧ r ≤ a ∧ r ≤ b) := ⟨by omega, by omega, by omega⟩
  have HAB : Hid (a < N ∧ b < N ∧ a ≠ b) := ⟨ha, hb, hab⟩
  have hnI : (N : Int) ≤ 1048576 := by omega
  have hr1 : ((r : Int) == -1) = false := by first | (simp; done) | (simp; omega)
  clear q1 q2 q3 q4 q5 hG hq hr ha hb hab hN hNI
  go_enter Try.func53, Try.ntmps53
  go_wp2_with fail
  refine (tix_any HRD.out H0.out.2 hrN HR0.out.1 HR0.out.2 hn).mono ?_
  rintro e Y ⟨rfl, hbY⟩
  have HY : Hid (SegV Y g 80 N 6 (fun x j => lcell (L x) (.slice (some ⟨PB x, 0, none⟩) (L x).np (PC x)) j) ∧ Onl g w Y) := ⟨H0.out.1.below hbY, Onl.of_below hbY (Nat.le_of_lt hgw)⟩
  clear hbY H0 HRD
  go_wp2_with fail
  go_loopw [5, 6] (fun s5 s6 wr => ∃ (d i : Nat) (Mp : Nat → Nat), i ≤ N ∧ Hid (d = cn a b i ∧ r < i) ∧ s5 = .int .i64 d ∧ s6 = .int .i64 i ∧ Hid (SegV wr g 80 N 6 (fun x j => lcell (L (Mp x)) (.slice (some ⟨PB (Mp x), 0, none⟩) (L (Mp x)).np (PC (Mp x))) j) ∧ (∀ j, j < i → j ≠ a → j ≠ b → Mp (cn a b j) = j) ∧ (∀ x, i ≤ x → Mp x = x) ∧ Onl g w wr)) (fun _ s6 _ => N - (intOf s6).toNat)
  case atStart =>
    refine ⟨r, r + 1, fun x => x, by omega, ⟨?_, by omega⟩, rfl, by simp, HY.out.1, fun j hj ha hb => ?_, fun x _ => rfl, HY.out.2⟩
    · have := HR0.out
      have := HAB.out.2.2
      unfold cn
      split <;> split <;> omega
    · have := HR0.out
      unfold cn
      rw [if_neg (by omega), if_neg (by omega)]; rfl
  case round =>
    obtain ⟨d, i, Mp, hiN, HI, rfl, rfl, HR⟩ := hrel
    by_cases hin : i < N
    · obtain ⟨x, hx⟩ : ∃ x, x = L i := ⟨_, rfl⟩
      obtain ⟨m, hm⟩ : ∃ m, m = (L i).np := ⟨_, rfl⟩
      obtain ⟨pb, hpb⟩ : ∃ pb, pb = PB i := ⟨_, rfl⟩
      obtain ⟨pc, hpc⟩ : ∃ pc, pc = PC i := ⟨_, rfl⟩
      have hdi : d < i := by
        obtain ⟨e, h⟩ := HI.out
        rw [e]
        have := HR0.out.1
        exact cn_lt (by omega)
      have hdN : d < N := by omega
      have hdI : (d : Int) < N := by omega
      have hiI : (i : Int) < N := by omega
      have emp : Mp i = i := HR.out.2.2.1 i (Nat.le_refl _)
      have c0 : wr.cell? ⟨g, i * 6, none⟩ = some (.int .i64 x.id) := by
        have := HR.out.1.cell hin (show 0 < 6 by omega)
        rw [emp, ← hm, ← hx, ← hpb, ← hpc] at this
        exact this
      have c1 : wr.cell? ⟨g, i * 6 + 1, none⟩ = some (.int .i64 x.fr) := by
        have := HR.out.1.cell hin (show 1 < 6 by omega)
        rw [emp, ← hm, ← hx, ← hpb, ← hpc] at this
        exact this
      have c2 : wr.cell? ⟨g, i * 6 + 2, none⟩ = some (.int .i64 x.tt) := by
        have := HR.out.1.cell hin (show 2 < 6 by omega)
        rw [emp, ← hm, ← hx, ← hpb, ← hpc] at this
        exact this
      have c3 : wr.cell? ⟨g, i * 6 + 3, none⟩ = some (.slice (some ⟨pb, 0, none⟩) m pc) := by
        have := HR.out.1.cell hin (show 3 < 6 by omega)
        rw [emp, ← hm, ← hx, ← hpb, ← hpc] at this
        exact this
      have c4 : wr.cell? ⟨g, i * 6 + 4, none⟩ = some (.int .i64 x.fi) := by
        have := HR.out.1.cell hin (show 4 < 6 by omega)
        rw [emp, ← hm, ← hx, ← hpb, ← hpc] at this
        exact this
      have c5 : wr.cell? ⟨g, i * 6 + 5, none⟩ = some (.int .i64 x.wd) := by
        have := HR.out.1.cell hin (show 5 < 6 by omega)
        rw [emp, ← hm, ← hx, ← hpb, ← hpc] at this
        exact this
      have HX : Hid (x = L i ∧ m = (L i).np ∧ pb = PB i ∧ pc = PC i) := ⟨hx, hm, hpb, hpc⟩
      have HCl : Calls Try.prog 55 #[.agg #[.int .i64 x.id, .int .i64 x.fr, .int .i64 x.tt, .slice (some ⟨pb, 0, none⟩) m pc, .int .i64 x.fi, .int .i64 x.wd], .pointer (some ⟨q, 0, none⟩)] (wr.alloc (.cells #[.int .i64 x.id, .int .i64 x.fr, .int .i64 x.tt, .slice (some ⟨pb, 0, none⟩) m pc, .int .i64 x.fi, .int .i64 x.wd] 80)) fun e w' => e = .returned (.bool (decide (i = a ∨ i = b))) ∧ Below (wr.alloc (.cells #[.int .i64 x.id, .int .i64 x.fr, .int .i64 x.tt, .slice (some ⟨pb, 0, none⟩) m pc, .int .i64 x.fi, .int .i64 x.wd] 80)).heap.size (wr.alloc (.cells #[.int .i64 x.id, .int .i64 x.fr, .int .i64 x.tt, .slice (some ⟨pb, 0, none⟩) m pc, .int .i64 x.fi, .int .i64 x.wd] 80)) w' := by
        have hbe : Below wr.heap.size wr (wr.alloc (.cells #[.int .i64 x.id, .int .i64 x.fr, .int .i64 x.tt, .slice (some ⟨pb, 0, none⟩) m pc, .int .i64 x.fi, .int .i64 x.wd] 80)) := (Below.refl _ _).alloc (Nat.le_refl _) _
        have hT := (HS wr HR.out.2.2.2).out.2.later hbe
        have hs := hT.says i hin
        rw [← hx] at hs
        have := gdl_any gu x (some ⟨pb, 0, none⟩) m pc hT.c0 hT.c1
        rw [hs] at this
        exact this
      clear hx hm hpb hpc HS emp
      have hwl := HR.out.1.lt
      by_cases hab : i = a ∨ i = b
      · rw [decide_eq_true hab] at HCl
        have HE : Hid (d = cn a b (i + 1) ∧ r < i + 1) := ⟨by rw [cn_out HAB.out.2.2 hab]; exact HI.out.1, by have := HI.out.2; omega⟩
        have HB : Hid (i = a ∨ i = b) := hab
        clear hab
        go_wp2_with (first | (go_at_call 55; refine HCl.mono ?_; rintro e w1 ⟨rfl, hb1⟩; have HB1 : Hid (Below wr.heap.size wr w1) := box_step ((Below.refl _ _).alloc (Nat.le_refl _) _) hb1 (Nat.le_refl _); clear hb1 HCl c0 c1 c2 c3 c4 c5))
        go_roundw
        case rel =>
          refine ⟨d, i + 1, Mp, by omega, HE, rfl, by simp, HR.out.1.below HB1.out, fun j hj ha hb => ?_, fun x hx => HR.out.2.2.1 x (by omega), HR.out.2.2.2.trans (Onl.of_below HB1.out (Nat.le_of_lt HR.out.1.lt))⟩
          have := HB.out
          exact HR.out.2.1 j (by omega) ha hb
        case measure => simp [intOf]; omega
      · rw [decide_eq_false hab] at HCl
        have HE : Hid (d + 1 = cn a b (i + 1) ∧ r < i + 1) := ⟨by rw [cn_in HAB.out.2.2 (fun e => hab (Or.inl e)) (fun e => hab (Or.inr e)), HI.out.1], by have := HI.out.2; omega⟩
        clear hab
        go_wp2_with (first | (go_at_call 55; refine HCl.mono ?_; rintro e w1 ⟨rfl, hb1⟩; have HB1 : Hid (Below wr.heap.size wr w1) := box_step ((Below.refl _ _).alloc (Nat.le_refl _) _) hb1 (Nat.le_refl _); have hZ := newOld hb1; have y0 := hZ.cell (j := 0) (v := .int .i64 x.id) rfl; have y1 := hZ.cell (j := 1) (v := .int .i64 x.fr) rfl; have y2 := hZ.cell (j := 2) (v := .int .i64 x.tt) rfl; have y3 := hZ.cell (j := 3) (v := .slice (some ⟨pb, 0, none⟩) m pc) rfl; have y4 := hZ.cell (j := 4) (v := .int .i64 x.fi) rfl; have y5 := hZ.cell (j := 5) (v := .int .i64 x.wd) rfl; have hzl := hZ.lt; have HN1 : Hid (SegV w1 g 80 N 6 (fun x j => lcell (L (Mp x)) (.slice (some ⟨PB (Mp x), 0, none⟩) (L (Mp x)).np (PC (Mp x))) j)) := HR.out.1.below HB1.out; have a0 := HN1.out.cell hdN (show 0 < 6 by omega); have a1 := HN1.out.cell hdN (show 1 < 6 by omega); have a2 := HN1.out.cell hdN (show 2 < 6 by omega); have a3 := HN1.out.cell hdN (show 3 < 6 by omega); have a4 := HN1.out.cell hdN (show 4 < 6 by omega); have a5 := HN1.out.cell hdN (show 5 < 6 by omega); have fz : ∀ j, w1.frozen? ⟨g, j, none⟩ = false := fun j => HN1.out.frozen j; have hgl := HN1.out.lt; rw [Nat.add_zero] at a0; clear hb1 hZ HCl c0 c1 c2 c3 c4 c5))
        go_roundw
        case rel =>
          obtain ⟨e1, e2, e3, e4⟩ := HX.out
          refine ⟨d + 1, i + 1, fun x => if x = d then i else Mp x, by omega, HE, by simp, by simp, ?_, fun j hj ha hb => ?_, fun x hx => ?_, ?_⟩
          · refine SegV.congr (SegV.set (SegV.set (SegV.set (SegV.set (SegV.set (SegV.set HN1.out hdN (show 0 < 6 by omega) (.int .i64 x.id)) hdN (show 1 < 6 by omega) (.int .i64 x.fr)) hdN (show 2 < 6 by omega) (.int .i64 x.tt)) hdN (show 3 < 6 by omega) (.slice (some ⟨pb, 0, none⟩) m pc)) hdN (show 4 < 6 by omega) (.int .i64 x.fi)) hdN (show 5 < 6 by omega) (.int .i64 x.wd)) fun y hy j hj => ?_
            by_cases e : y = d
            · subst e
              show _ = lcell (L (if y = y then i else Mp y)) (.slice (some ⟨PB (if y = y then i else Mp y), 0, none⟩) (L (if y = y then i else Mp y)).np (PC (if y = y then i else Mp y))) j
              have e9 : (if y = y then i else Mp y) = i := if_pos rfl
              rw [e9, ← e2, ← e1, ← e3, ← e4]
              match j, hj with
              | 0, _ => simp [lcell]
              | 1, _ => simp [lcell]
              | 2, _ => simp [lcell]
              | 3, _ => simp [lcell]
              | 4, _ => simp [lcell]
              | 5, _ => simp [lcell]
            · show _ = lcell (L (if y = d then i else Mp y)) (.slice (some ⟨PB (if y = d then i else Mp y), 0, none⟩) (L (if y = d then i else Mp y)).np (PC (if y = d then i else Mp y))) j
              rw [if_neg e]
              simp [e]
          · by_cases e : j = i
            · rw [e, ← HI.out.1]
              exact if_pos rfl
            · have hj1 : j < i := by omega
              have h1 : cn a b j + 1 ≤ cn a b i := by rw [← cn_in HAB.out.2.2 ha hb]; exact cn_mono (by omega) HAB.out.2.2
              show (if cn a b j = d then i else Mp (cn a b j)) = j
              rw [if_neg (by have := HI.out.1; omega)]
              exact HR.out.2.1 j hj1 ha hb
          · show (if x = d then i else Mp x) = x
            rw [if_neg (by omega)]
            exact HR.out.2.2.1 x (by omega)
          · exact ((((((HR.out.2.2.2.trans (Onl.of_below HB1.out (Nat.le_of_lt HR.out.1.lt))).setC _ _).setC _ _).setC _ _).setC _ _).setC _ _).setC _ _
        case measure => simp [intOf]; omega
    · obtain rfl : i = N := by omega
      obtain rfl : d = M := by rw [HI.out.1, HNM.out]; exact cn_all (by have := HAB.out.1; have := HNM.out; omega) (by have := HAB.out.2.1; have := HNM.out; omega)
      have hd1 : d + 1 < i := by have := HNM.out; omega
      have HE : Hid (OwLs lo hi (wr.setCells g (d * 6) nul2) g d (fun i => L (two a b i)) ∧ Onl g w (wr.setCells g (d * 6) nul2)) := by
        obtain ⟨p1, p2, p3, p4⟩ := HQ.out
        have hO : Onl g w (wr.setCells g (d * 6) nul2) := onl_nul2 HR.out.2.2.2
        have hk : ∀ x, x < d → two a b x < i := fun x hx => by have := two_lt (a := a) (b := b) hx; have := HNM.out; omega
        refine ⟨⟨fun x => PB (two a b x), fun x => PC (two a b x), p1, p2, ?_, fun x hx => ⟨(p3 _ (hk x hx)).1, (p3 _ (hk x hx)).2.1, (HS _ hO).out.1 _ (hk x hx)⟩, fun x c hx hc e => two_inj (p4 _ _ (hk x hx) (hk c hc) e)⟩, hO⟩
        refine SegV.congr (seg_nul2 HR.out.1 hd1) fun x hx j hj => ?_
        have e : Mp x = two a b x := by
          have := HR.out.2.1 (two a b x) (hk x hx) (two_na _ _ _) (two_nb HAB.out.2.2 _)
          rw [cn_two HAB.out.2.2] at this
          exact this
        rw [e]
      have hcl : ∀ ty c, (Builtin.clear_ #[30] ty #[.slice (some ⟨g, d * 6, none⟩) 2 c]).run Try.prog wr = .ok (.tuple #[]) (wr.setCells g (d * 6) nul2) := fun ty c => run_clear_two ty HR.out.1 hd1
      obtain ⟨Z, hZ⟩ : ∃ Z, Z = wr.setCells g (d * 6) nul2 := ⟨_, rfl⟩
      rw [← hZ] at HE hcl
      have hsub : i - d = 2 := by have := HNM.out; omega
      have hsubI : (i : Int) - d = 2 := by have := HNM.out; omega
      have hdi : (d : Int) ≤ i := by omega
      have hdin : d ≤ i := by omega
      clear HS hZ HR
      go_wp2
      go_ret
      exact ⟨rfl, HE.out.1, HE.out.2⟩
end Go.Proofs.Ytinfbbbgfkaioaa
