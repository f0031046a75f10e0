/- Chains of plates: both packages, one plain answer. -/
import Derived.Test.YtloebnlmeplgbaaRw
import Derived.Test.YtloebnlmeplgbaaPt
import Derived.Test.YtloebnlmeplgbaaPq
import Derived.Handy
namespace Go.Proofs.Ytloebnlmeplgbaa
open Go.RowKit
set_option linter.unusedVariables false
set_option linter.unusedSimpArgs false
def ch (G : Nat → Pl) : Nat → Pl | 0 => ⟨⟨1, 0⟩, ⟨0, 0⟩, ⟨0, 0⟩, ⟨1, 0⟩⟩ | k + 1 => pmul (G k) (ch G k)
def plF (g : Pl) : Int := pcode g.a g.b g.c g.d
theorem plF_or (g : Pl) : plF g = 0 ∨ plF g = 3 := pcode_or _ _ _ _
def okc (G : Nat → Pl) : Nat → Bool | 0 => true | k + 1 => okc G k && decide (plF (G k) = 0) && decide (plF (ch G (k + 1)) = 0)
def okp (G : Nat → Pl) : Nat → Bool | 0 => true | k + 1 => okp G k && decide (plF (G k) = 0)
theorem okc_bad {G : Nat → Pl} {k : Nat} (h : okc G k = false) : ∀ d, okc G (k + d) = false
  | 0 => h
  | d + 1 => by show (okc G (k + d) && _ && _) = false; rw [okc_bad h d]; rfl
theorem okc_up {G : Nat → Pl} {k n : Nat} (hk : k ≤ n) (h : okc G k = false) : okc G n = false := by
  obtain ⟨d, rfl⟩ : ∃ d, n = k + d := ⟨n - k, by omega⟩
  exact okc_bad h d
theorem okp_okc {G : Nat → Pl} : ∀ k, okp G k = false → okc G k = false
  | 0, h => h
  | k + 1, h => by
    simp only [okp, Bool.and_eq_false_iff] at h
    rcases h with h | h
    · simp only [okc, okp_okc k h, Bool.false_and]
    · simp only [okc, h, Bool.and_false, Bool.false_and]
theorem okp_bad {G : Nat → Pl} {k : Nat} (h : okp G k = false) : ∀ d, okp G (k + d) = false
  | 0 => h
  | d + 1 => by show (okp G (k + d) && _) = false; rw [okp_bad h d]; rfl
theorem okp_up {G : Nat → Pl} {k n : Nat} (hk : k ≤ n) (h : okp G k = false) : okp G n = false := by
  obtain ⟨d, rfl⟩ : ∃ d, n = k + d := ⟨n - k, by omega⟩
  exact okp_bad h d
theorem okp_at {G : Nat → Pl} : ∀ n k, k < n → okp G n = true → plF (G k) = 0
  | 0, k, h, _ => absurd h (Nat.not_lt_zero _)
  | n + 1, k, h, ho => by
    simp only [okp, Bool.and_eq_true, decide_eq_true_eq] at ho
    by_cases e : k = n
    · rw [e]; exact ho.2
    · exact okp_at n k (by omega) ho.1
def chC (G : Nat → Pl) (n : Nat) : Int := if 100 < n then 2 else if okc G n then 0 else 3
def chP (G : Nat → Pl) (n : Nat) : Pl := if 100 < n then zpl else if okc G n then ch G n else zpl
set_option maxRecDepth 20000 in
set_option maxHeartbeats 3200000 in
theorem ich_some (b off n cap : Nat) (G : Nat → Pl) (w : World) (hn : n ≤ 100) (hc : ∀ i, i < n → ∀ j, j < 8 → w.cell? ⟨b, off + i * 8 + j, none⟩ = some (plc (G i) j)) : Calls Try.prog 41 #[.slice (some ⟨b, off, none⟩) n cap] w fun e w' => e = .returned (.agg #[.int .i64 (chC G n), .int .i64 ((chP G n).a.re), .int .i64 ((chP G n).a.im), .int .i64 ((chP G n).b.re), .int .i64 ((chP G n).b.im), .int .i64 ((chP G n).c.re), .int .i64 ((chP G n).c.im), .int .i64 ((chP G n).d.re), .int .i64 ((chP G n).d.im)]) ∧ Below w.heap.size w w' := by
  have C0 : Hid (okc G n = false → chC G n = 3 ∧ chP G n = zpl) := fun h => by simp [chC, chP, h, Nat.not_lt.2 hn]
  have C1 : Hid (okc G n = true → chC G n = 0 ∧ chP G n = ch G n) := fun h => by simp [chC, chP, h, Nat.not_lt.2 hn]
  have later : ∀ (wr : World) (p : Addr) {v : Value}, w.cell? p = some v → Below w.heap.size w wr → wr.cell? p = some v := fun wr p v h hb => (hb.cell (World.block_lt_of_cell? _ _ h)).trans h
  have hn9 : ¬ (100 < (n : Int)) := by omega
  go_enter Try.func41, Try.ntmps41
  have HO : Hid (Below w.heap.size w w) := Below.refl _ _
  go_upto_region 4 with fail
  obtain ⟨v1, hv⟩ : ∃ Xw, Xw = ((w.alloc (.cells #[.int .i64 0, .int .i64 0, .int .i64 0, .int .i64 0, .int .i64 0, .int .i64 0, .int .i64 0, .int .i64 0, .int .i64 0] 66)).alloc (.cells #[.int .i64 1, .int .i64 0, .int .i64 0, .int .i64 0, .int .i64 0, .int .i64 0, .int .i64 1, .int .i64 0] 27)) := ⟨_, rfl⟩
  rw [← hv]
  have ne_r_m : Hid (w.heap.size ≠ w.heap.size + 1) := by show (w.heap.size : Nat) ≠ w.heap.size + 1; omega
  have B_r : Hid (Blk v1 (w.heap.size) #[.int .i64 0, .int .i64 0, .int .i64 0, .int .i64 0, .int .i64 0, .int .i64 0, .int .i64 0, .int .i64 0, .int .i64 0] 66) := by show Blk v1 (w.heap.size) _ _; rw [hv]; exact (Blk.alloc (Blk.new (by simp)) _)
  have low_r : Hid (w.heap.size ≤ w.heap.size) := by show w.heap.size ≤ w.heap.size; have := HO.out.size; omega
  have B_m : Hid (Blk v1 (w.heap.size + 1) #[.int .i64 1, .int .i64 0, .int .i64 0, .int .i64 0, .int .i64 0, .int .i64 0, .int .i64 1, .int .i64 0] 27) := by show Blk v1 (w.heap.size + 1) _ _; rw [hv]; exact (Blk.new (by simp))
  have low_m : Hid (w.heap.size ≤ w.heap.size + 1) := by show w.heap.size ≤ w.heap.size + 1; have := HO.out.size; omega
  replace HO : Hid (Below w.heap.size w v1) := by show Below w.heap.size w v1; rw [hv]; exact (below_new (below_new HO.out _) _)
  clear hv
  go_wp2_with fail
  go_loopw [17] (fun i wr => ∃ k : Nat, k ≤ n ∧ i = .int .i64 k ∧ okc G k = true ∧ Blk wr (w.heap.size) #[.int .i64 0, .int .i64 0, .int .i64 0, .int .i64 0, .int .i64 0, .int .i64 0, .int .i64 0, .int .i64 0, .int .i64 0] 66 ∧ Blk wr (w.heap.size + 1) #[.int .i64 ((ch G k).a.re), .int .i64 ((ch G k).a.im), .int .i64 ((ch G k).b.re), .int .i64 ((ch G k).b.im), .int .i64 ((ch G k).c.re), .int .i64 ((ch G k).c.im), .int .i64 ((ch G k).d.re), .int .i64 ((ch G k).d.im)] 27 ∧ Below w.heap.size w wr) (fun i _ => n - (intOf i).toNat)
  case atStart => exact ⟨0, Nat.zero_le _, rfl, rfl, B_r.out, B_m.out, HO.out⟩
  case round =>
    clear B_r B_m HO
    obtain ⟨k, hk, rfl, hok, br, bm, ho⟩ := hrel
    have HK : Hid (okc G k = true) := hok
    clear hok
    by_cases hkn : k < n
    · skip
      have B_r : Hid (Blk wr (w.heap.size) #[.int .i64 0, .int .i64 0, .int .i64 0, .int .i64 0, .int .i64 0, .int .i64 0, .int .i64 0, .int .i64 0, .int .i64 0] 66) := br
      have B_m : Hid (Blk wr (w.heap.size + 1) #[.int .i64 ((ch G k).a.re), .int .i64 ((ch G k).a.im), .int .i64 ((ch G k).b.re), .int .i64 ((ch G k).b.im), .int .i64 ((ch G k).c.re), .int .i64 ((ch G k).c.im), .int .i64 ((ch G k).d.re), .int .i64 ((ch G k).d.im)] 27) := bm
      have HO : Hid (Below w.heap.size w wr) := ho
      have g0 : wr.cell? ⟨b, off + k * 8, none⟩ = some (.int .i64 ((G k).a.re)) := later _ _ (hc k hkn 0 (by omega)) ho
      have g1 : wr.cell? ⟨b, off + k * 8 + 1, none⟩ = some (.int .i64 ((G k).a.im)) := later _ _ (hc k hkn 1 (by omega)) ho
      have g2 : wr.cell? ⟨b, off + k * 8 + 2, none⟩ = some (.int .i64 ((G k).b.re)) := later _ _ (hc k hkn 2 (by omega)) ho
      have g3 : wr.cell? ⟨b, off + k * 8 + 3, none⟩ = some (.int .i64 ((G k).b.im)) := later _ _ (hc k hkn 3 (by omega)) ho
      have g4 : wr.cell? ⟨b, off + k * 8 + 4, none⟩ = some (.int .i64 ((G k).c.re)) := later _ _ (hc k hkn 4 (by omega)) ho
      have g5 : wr.cell? ⟨b, off + k * 8 + 5, none⟩ = some (.int .i64 ((G k).c.im)) := later _ _ (hc k hkn 5 (by omega)) ho
      have g6 : wr.cell? ⟨b, off + k * 8 + 6, none⟩ = some (.int .i64 ((G k).d.re)) := later _ _ (hc k hkn 6 (by omega)) ho
      have g7 : wr.cell? ⟨b, off + k * 8 + 7, none⟩ = some (.int .i64 ((G k).d.im)) := later _ _ (hc k hkn 7 (by omega)) ho
      clear br bm ho hc later
      go_upto_region 7 with fail
      clear g0 g1 g2 g3 g4 g5 g6 g7
      obtain ⟨v2, hv⟩ : ∃ Xw, Xw = (wr.alloc (.cells #[.int .i64 ((G k).a.re), .int .i64 ((G k).a.im), .int .i64 ((G k).b.re), .int .i64 ((G k).b.im), .int .i64 ((G k).c.re), .int .i64 ((G k).c.im), .int .i64 ((G k).d.re), .int .i64 ((G k).d.im)] 27)) := ⟨_, rfl⟩
      rw [← hv]
      have ne_r_q : Hid (w.heap.size ≠ wr.heap.size) := Nat.ne_of_lt (Nat.lt_of_lt_of_le B_r.out.lt (by omega))
      have ne_m_q : Hid (w.heap.size + 1 ≠ wr.heap.size) := Nat.ne_of_lt (Nat.lt_of_lt_of_le B_m.out.lt (by omega))
      have B_q : Hid (Blk v2 (wr.heap.size) #[.int .i64 ((G k).a.re), .int .i64 ((G k).a.im), .int .i64 ((G k).b.re), .int .i64 ((G k).b.im), .int .i64 ((G k).c.re), .int .i64 ((G k).c.im), .int .i64 ((G k).d.re), .int .i64 ((G k).d.im)] 27) := by show Blk v2 (wr.heap.size) _ _; rw [hv]; exact (Blk.new (by simp))
      have low_q : Hid (w.heap.size ≤ wr.heap.size) := by show w.heap.size ≤ wr.heap.size; have := HO.out.size; omega
      replace B_r : Hid (Blk v2 (w.heap.size) #[.int .i64 0, .int .i64 0, .int .i64 0, .int .i64 0, .int .i64 0, .int .i64 0, .int .i64 0, .int .i64 0, .int .i64 0] 66) := by show Blk v2 (w.heap.size) _ _; rw [hv]; exact (Blk.alloc B_r.out _)
      replace B_m : Hid (Blk v2 (w.heap.size + 1) #[.int .i64 ((ch G k).a.re), .int .i64 ((ch G k).a.im), .int .i64 ((ch G k).b.re), .int .i64 ((ch G k).b.im), .int .i64 ((ch G k).c.re), .int .i64 ((ch G k).c.im), .int .i64 ((ch G k).d.re), .int .i64 ((ch G k).d.im)] 27) := by show Blk v2 (w.heap.size + 1) _ _; rw [hv]; exact (Blk.alloc B_m.out _)
      replace HO : Hid (Below w.heap.size w v2) := by show Below w.heap.size w v2; rw [hv]; exact (below_new HO.out _)
      clear hv
      have q_0 := B_q.out.cell (j := 0) rfl
      have q_1 := B_q.out.cell (j := 1) rfl
      have q_2 := B_q.out.cell (j := 2) rfl
      have q_3 := B_q.out.cell (j := 3) rfl
      have q_4 := B_q.out.cell (j := 4) rfl
      have q_5 := B_q.out.cell (j := 5) rfl
      have q_6 := B_q.out.cell (j := 6) rfl
      have q_7 := B_q.out.cell (j := 7) rfl
      have q_f := B_q.out.frozen
      have q_z := B_q.out.lt
      go_wp2_with fail
      refine (iplate (G k).a (G k).b (G k).c (G k).d _).mono ?_
      rintro e v3 ⟨rfl, hb⟩
      clear q_0 q_1 q_2 q_3 q_4 q_5 q_6 q_7 q_f q_z
      replace B_r : Hid (Blk v3 (w.heap.size) #[.int .i64 0, .int .i64 0, .int .i64 0, .int .i64 0, .int .i64 0, .int .i64 0, .int .i64 0, .int .i64 0, .int .i64 0] 66) := by show Blk v3 (w.heap.size) _ _; exact Blk.old B_r.out hb
      replace B_m : Hid (Blk v3 (w.heap.size + 1) #[.int .i64 ((ch G k).a.re), .int .i64 ((ch G k).a.im), .int .i64 ((ch G k).b.re), .int .i64 ((ch G k).b.im), .int .i64 ((ch G k).c.re), .int .i64 ((ch G k).c.im), .int .i64 ((ch G k).d.re), .int .i64 ((ch G k).d.im)] 27) := by show Blk v3 (w.heap.size + 1) _ _; exact Blk.old B_m.out hb
      replace B_q : Hid (Blk v3 (wr.heap.size) #[.int .i64 ((G k).a.re), .int .i64 ((G k).a.im), .int .i64 ((G k).b.re), .int .i64 ((G k).b.im), .int .i64 ((G k).c.re), .int .i64 ((G k).c.im), .int .i64 ((G k).d.re), .int .i64 ((G k).d.im)] 27) := by show Blk v3 (wr.heap.size) _ _; exact Blk.old B_q.out hb
      replace HO : Hid (Below w.heap.size w v3) := box_step HO.out hb (Nat.le_refl _)
      clear hb
      rcases plF_or (G k) with hp | hp
      · skip
        rw [show pcode (G k).a (G k).b (G k).c (G k).d = 0 from hp]
        have q_0 := B_q.out.cell (j := 0) rfl
        have q_1 := B_q.out.cell (j := 1) rfl
        have q_2 := B_q.out.cell (j := 2) rfl
        have q_3 := B_q.out.cell (j := 3) rfl
        have q_4 := B_q.out.cell (j := 4) rfl
        have q_5 := B_q.out.cell (j := 5) rfl
        have q_6 := B_q.out.cell (j := 6) rfl
        have q_7 := B_q.out.cell (j := 7) rfl
        have q_f := B_q.out.frozen
        have q_z := B_q.out.lt
        have m_0 := B_m.out.cell (j := 0) rfl
        have m_1 := B_m.out.cell (j := 1) rfl
        have m_2 := B_m.out.cell (j := 2) rfl
        have m_3 := B_m.out.cell (j := 3) rfl
        have m_4 := B_m.out.cell (j := 4) rfl
        have m_5 := B_m.out.cell (j := 5) rfl
        have m_6 := B_m.out.cell (j := 6) rfl
        have m_7 := B_m.out.cell (j := 7) rfl
        have m_f := B_m.out.frozen
        have m_z := B_m.out.lt
        go_wp2_with fail
        refine (itimesP (G k) (ch G k) _).mono ?_
        rintro e v4 ⟨rfl, hb⟩
        clear q_0 q_1 q_2 q_3 q_4 q_5 q_6 q_7 q_f q_z m_0 m_1 m_2 m_3 m_4 m_5 m_6 m_7 m_f m_z
        replace B_r : Hid (Blk v4 (w.heap.size) #[.int .i64 0, .int .i64 0, .int .i64 0, .int .i64 0, .int .i64 0, .int .i64 0, .int .i64 0, .int .i64 0, .int .i64 0] 66) := by show Blk v4 (w.heap.size) _ _; exact Blk.old B_r.out hb
        replace B_m : Hid (Blk v4 (w.heap.size + 1) #[.int .i64 ((ch G k).a.re), .int .i64 ((ch G k).a.im), .int .i64 ((ch G k).b.re), .int .i64 ((ch G k).b.im), .int .i64 ((ch G k).c.re), .int .i64 ((ch G k).c.im), .int .i64 ((ch G k).d.re), .int .i64 ((ch G k).d.im)] 27) := by show Blk v4 (w.heap.size + 1) _ _; exact Blk.old B_m.out hb
        replace B_q : Hid (Blk v4 (wr.heap.size) #[.int .i64 ((G k).a.re), .int .i64 ((G k).a.im), .int .i64 ((G k).b.re), .int .i64 ((G k).b.im), .int .i64 ((G k).c.re), .int .i64 ((G k).c.im), .int .i64 ((G k).d.re), .int .i64 ((G k).d.im)] 27) := by show Blk v4 (wr.heap.size) _ _; exact Blk.old B_q.out hb
        replace HO : Hid (Below w.heap.size w v4) := box_step HO.out hb (Nat.le_refl _)
        clear hb
        have m_f := B_m.out.frozen
        have mc0 := B_m.out.cell (j := 0) rfl
        have mc1 := B_m.out.cell (j := 1) rfl
        have mc2 := B_m.out.cell (j := 2) rfl
        have mc3 := B_m.out.cell (j := 3) rfl
        have mc4 := B_m.out.cell (j := 4) rfl
        have mc5 := B_m.out.cell (j := 5) rfl
        have mc6 := B_m.out.cell (j := 6) rfl
        have mc7 := B_m.out.cell (j := 7) rfl
        go_upto_region 11 with fail
        clear m_f mc0 mc1 mc2 mc3 mc4 mc5 mc6 mc7
        obtain ⟨v5, hv⟩ : ∃ Xw, Xw = ((((((((v4.setCell ⟨w.heap.size + 1, 0, none⟩ (.int .i64 ((pmul (G k) (ch G k)).a.re))).setCell ⟨w.heap.size + 1, 1, none⟩ (.int .i64 ((pmul (G k) (ch G k)).a.im))).setCell ⟨w.heap.size + 1, 2, none⟩ (.int .i64 ((pmul (G k) (ch G k)).b.re))).setCell ⟨w.heap.size + 1, 3, none⟩ (.int .i64 ((pmul (G k) (ch G k)).b.im))).setCell ⟨w.heap.size + 1, 4, none⟩ (.int .i64 ((pmul (G k) (ch G k)).c.re))).setCell ⟨w.heap.size + 1, 5, none⟩ (.int .i64 ((pmul (G k) (ch G k)).c.im))).setCell ⟨w.heap.size + 1, 6, none⟩ (.int .i64 ((pmul (G k) (ch G k)).d.re))).setCell ⟨w.heap.size + 1, 7, none⟩ (.int .i64 ((pmul (G k) (ch G k)).d.im))) := ⟨_, rfl⟩
        rw [← hv]
        replace B_r : Hid (Blk v5 (w.heap.size) #[.int .i64 0, .int .i64 0, .int .i64 0, .int .i64 0, .int .i64 0, .int .i64 0, .int .i64 0, .int .i64 0, .int .i64 0] 66) := by show Blk v5 (w.heap.size) _ _; rw [hv]; exact (Blk.setOther (Blk.setOther (Blk.setOther (Blk.setOther (Blk.setOther (Blk.setOther (Blk.setOther (Blk.setOther B_r.out ne_r_m.out _) ne_r_m.out _) ne_r_m.out _) ne_r_m.out _) ne_r_m.out _) ne_r_m.out _) ne_r_m.out _) ne_r_m.out _)
        replace B_m : Hid (Blk v5 (w.heap.size + 1) #[.int .i64 ((pmul (G k) (ch G k)).a.re), .int .i64 ((pmul (G k) (ch G k)).a.im), .int .i64 ((pmul (G k) (ch G k)).b.re), .int .i64 ((pmul (G k) (ch G k)).b.im), .int .i64 ((pmul (G k) (ch G k)).c.re), .int .i64 ((pmul (G k) (ch G k)).c.im), .int .i64 ((pmul (G k) (ch G k)).d.re), .int .i64 ((pmul (G k) (ch G k)).d.im)] 27) := by show Blk v5 (w.heap.size + 1) _ _; rw [hv]; exact (Blk.set (Blk.set (Blk.set (Blk.set (Blk.set (Blk.set (Blk.set (Blk.set B_m.out _ _ rfl) _ _ rfl) _ _ rfl) _ _ rfl) _ _ rfl) _ _ rfl) _ _ rfl) _ _ rfl)
        replace B_q : Hid (Blk v5 (wr.heap.size) #[.int .i64 ((G k).a.re), .int .i64 ((G k).a.im), .int .i64 ((G k).b.re), .int .i64 ((G k).b.im), .int .i64 ((G k).c.re), .int .i64 ((G k).c.im), .int .i64 ((G k).d.re), .int .i64 ((G k).d.im)] 27) := by show Blk v5 (wr.heap.size) _ _; rw [hv]; exact (Blk.setOther (Blk.setOther (Blk.setOther (Blk.setOther (Blk.setOther (Blk.setOther (Blk.setOther (Blk.setOther B_q.out (Ne.symm ne_m_q.out) _) (Ne.symm ne_m_q.out) _) (Ne.symm ne_m_q.out) _) (Ne.symm ne_m_q.out) _) (Ne.symm ne_m_q.out) _) (Ne.symm ne_m_q.out) _) (Ne.symm ne_m_q.out) _) (Ne.symm ne_m_q.out) _)
        replace HO : Hid (Below w.heap.size w v5) := by show Below w.heap.size w v5; rw [hv]; exact (Below.setCell (Below.setCell (Below.setCell (Below.setCell (Below.setCell (Below.setCell (Below.setCell (Below.setCell HO.out low_m.out _) low_m.out _) low_m.out _) low_m.out _) low_m.out _) low_m.out _) low_m.out _) low_m.out _)
        clear hv
        have m_0 := B_m.out.cell (j := 0) rfl
        have m_1 := B_m.out.cell (j := 1) rfl
        have m_2 := B_m.out.cell (j := 2) rfl
        have m_3 := B_m.out.cell (j := 3) rfl
        have m_4 := B_m.out.cell (j := 4) rfl
        have m_5 := B_m.out.cell (j := 5) rfl
        have m_6 := B_m.out.cell (j := 6) rfl
        have m_7 := B_m.out.cell (j := 7) rfl
        have m_f := B_m.out.frozen
        have m_z := B_m.out.lt
        go_wp2_with fail
        refine (iplate (pmul (G k) (ch G k)).a (pmul (G k) (ch G k)).b (pmul (G k) (ch G k)).c (pmul (G k) (ch G k)).d _).mono ?_
        rintro e v6 ⟨rfl, hb⟩
        clear m_0 m_1 m_2 m_3 m_4 m_5 m_6 m_7 m_f m_z
        replace B_r : Hid (Blk v6 (w.heap.size) #[.int .i64 0, .int .i64 0, .int .i64 0, .int .i64 0, .int .i64 0, .int .i64 0, .int .i64 0, .int .i64 0, .int .i64 0] 66) := by show Blk v6 (w.heap.size) _ _; exact Blk.old B_r.out hb
        replace B_m : Hid (Blk v6 (w.heap.size + 1) #[.int .i64 ((pmul (G k) (ch G k)).a.re), .int .i64 ((pmul (G k) (ch G k)).a.im), .int .i64 ((pmul (G k) (ch G k)).b.re), .int .i64 ((pmul (G k) (ch G k)).b.im), .int .i64 ((pmul (G k) (ch G k)).c.re), .int .i64 ((pmul (G k) (ch G k)).c.im), .int .i64 ((pmul (G k) (ch G k)).d.re), .int .i64 ((pmul (G k) (ch G k)).d.im)] 27) := by show Blk v6 (w.heap.size + 1) _ _; exact Blk.old B_m.out hb
        replace B_q : Hid (Blk v6 (wr.heap.size) #[.int .i64 ((G k).a.re), .int .i64 ((G k).a.im), .int .i64 ((G k).b.re), .int .i64 ((G k).b.im), .int .i64 ((G k).c.re), .int .i64 ((G k).c.im), .int .i64 ((G k).d.re), .int .i64 ((G k).d.im)] 27) := by show Blk v6 (wr.heap.size) _ _; exact Blk.old B_q.out hb
        replace HO : Hid (Below w.heap.size w v6) := box_step HO.out hb (Nat.le_refl _)
        clear hb
        rcases plF_or (pmul (G k) (ch G k)) with hq | hq
        · skip
          rw [show pcode (pmul (G k) (ch G k)).a (pmul (G k) (ch G k)).b (pmul (G k) (ch G k)).c (pmul (G k) (ch G k)).d = 0 from hq]
          go_wp2
          go_roundw
          case rel => exact ⟨k + 1, by omega, by simp, by simp only [okc, HK.out, hp, ch, hq, decide_true, Bool.and_self], B_r.out, B_m.out, HO.out⟩
          case measure => simp [intOf]; omega
        · skip
          rw [show pcode (pmul (G k) (ch G k)).a (pmul (G k) (ch G k)).b (pmul (G k) (ch G k)).c (pmul (G k) (ch G k)).d = 3 from hq]
          have hf := C0.out (okc_up (k := k + 1) hkn (by simp only [okc, ch, hq]; simp))
          have r_0 := B_r.out.cell (j := 0) rfl
          have r_1 := B_r.out.cell (j := 1) rfl
          have r_2 := B_r.out.cell (j := 2) rfl
          have r_3 := B_r.out.cell (j := 3) rfl
          have r_4 := B_r.out.cell (j := 4) rfl
          have r_5 := B_r.out.cell (j := 5) rfl
          have r_6 := B_r.out.cell (j := 6) rfl
          have r_7 := B_r.out.cell (j := 7) rfl
          have r_8 := B_r.out.cell (j := 8) rfl
          have r_f := B_r.out.frozen
          have r_z := B_r.out.lt
          go_wp2
          refine bodyPost_ret (v := .agg #[.int .i64 3, .int .i64 0, .int .i64 0, .int .i64 0, .int .i64 0, .int .i64 0, .int .i64 0, .int .i64 0, .int .i64 0]) (by simp [results, Try.results41, go_sem, r_0, r_1, r_2, r_3, r_4, r_5, r_6, r_7, r_8, r_f, r_z] <;> (repeat' (first | rfl | apply And.intro))) rfl ⟨by rw [hf.1, hf.2]; rfl, ?_⟩
          exact (Below.setCell (Below.setCell (Below.setCell (Below.setCell (Below.setCell (Below.setCell (Below.setCell (Below.setCell (Below.setCell HO.out low_r.out _) low_r.out _) low_r.out _) low_r.out _) low_r.out _) low_r.out _) low_r.out _) low_r.out _) low_r.out _)
      · skip
        rw [show pcode (G k).a (G k).b (G k).c (G k).d = 3 from hp]
        have hf := C0.out (okc_up (k := k + 1) hkn (by simp only [okc, hp]; simp))
        have r_0 := B_r.out.cell (j := 0) rfl
        have r_1 := B_r.out.cell (j := 1) rfl
        have r_2 := B_r.out.cell (j := 2) rfl
        have r_3 := B_r.out.cell (j := 3) rfl
        have r_4 := B_r.out.cell (j := 4) rfl
        have r_5 := B_r.out.cell (j := 5) rfl
        have r_6 := B_r.out.cell (j := 6) rfl
        have r_7 := B_r.out.cell (j := 7) rfl
        have r_8 := B_r.out.cell (j := 8) rfl
        have r_f := B_r.out.frozen
        have r_z := B_r.out.lt
        go_wp2
        refine bodyPost_ret (v := .agg #[.int .i64 3, .int .i64 0, .int .i64 0, .int .i64 0, .int .i64 0, .int .i64 0, .int .i64 0, .int .i64 0, .int .i64 0]) (by simp [results, Try.results41, go_sem, r_0, r_1, r_2, r_3, r_4, r_5, r_6, r_7, r_8, r_f, r_z] <;> (repeat' (first | rfl | apply And.intro))) rfl ⟨by rw [hf.1, hf.2]; rfl, ?_⟩
        exact (Below.setCell (Below.setCell (Below.setCell (Below.setCell (Below.setCell (Below.setCell (Below.setCell (Below.setCell (Below.setCell HO.out low_r.out _) low_r.out _) low_r.out _) low_r.out _) low_r.out _) low_r.out _) low_r.out _) low_r.out _) low_r.out _)
    · obtain rfl : k = n := by omega
      have hf := C1.out HK.out
      have B_r : Hid (Blk wr (w.heap.size) #[.int .i64 0, .int .i64 0, .int .i64 0, .int .i64 0, .int .i64 0, .int .i64 0, .int .i64 0, .int .i64 0, .int .i64 0] 66) := br
      have B_m : Hid (Blk wr (w.heap.size + 1) #[.int .i64 ((ch G k).a.re), .int .i64 ((ch G k).a.im), .int .i64 ((ch G k).b.re), .int .i64 ((ch G k).b.im), .int .i64 ((ch G k).c.re), .int .i64 ((ch G k).c.im), .int .i64 ((ch G k).d.re), .int .i64 ((ch G k).d.im)] 27) := bm
      have HO : Hid (Below w.heap.size w wr) := ho
      clear hc later br bm ho
      have m_0 := B_m.out.cell (j := 0) rfl
      have m_1 := B_m.out.cell (j := 1) rfl
      have m_2 := B_m.out.cell (j := 2) rfl
      have m_3 := B_m.out.cell (j := 3) rfl
      have m_4 := B_m.out.cell (j := 4) rfl
      have m_5 := B_m.out.cell (j := 5) rfl
      have m_6 := B_m.out.cell (j := 6) rfl
      have m_7 := B_m.out.cell (j := 7) rfl
      have m_f := B_m.out.frozen
      have m_z := B_m.out.lt
      have r_0 := B_r.out.cell (j := 0) rfl
      have r_1 := B_r.out.cell (j := 1) rfl
      have r_2 := B_r.out.cell (j := 2) rfl
      have r_3 := B_r.out.cell (j := 3) rfl
      have r_4 := B_r.out.cell (j := 4) rfl
      have r_5 := B_r.out.cell (j := 5) rfl
      have r_6 := B_r.out.cell (j := 6) rfl
      have r_7 := B_r.out.cell (j := 7) rfl
      have r_8 := B_r.out.cell (j := 8) rfl
      have r_f := B_r.out.frozen
      have r_z := B_r.out.lt
      go_wp2
      refine bodyPost_ret (v := .agg #[.int .i64 0, .int .i64 ((ch G k).a.re), .int .i64 ((ch G k).a.im), .int .i64 ((ch G k).b.re), .int .i64 ((ch G k).b.im), .int .i64 ((ch G k).c.re), .int .i64 ((ch G k).c.im), .int .i64 ((ch G k).d.re), .int .i64 ((ch G k).d.im)]) (by simp [results, Try.results41, go_sem, m_0, m_1, m_2, m_3, m_4, m_5, m_6, m_7, m_f, m_z, r_0, r_1, r_2, r_3, r_4, r_5, r_6, r_7, r_8, r_f, r_z] <;> (repeat' (first | rfl | apply And.intro))) rfl ⟨by rw [hf.1, hf.2], ?_⟩
      exact (Below.setCell (Below.setCell (Below.setCell (Below.setCell (Below.setCell (Below.setCell (Below.setCell (Below.setCell (Below.setCell HO.out low_r.out _) low_r.out _) low_r.out _) low_r.out _) low_r.out _) low_r.out _) low_r.out _) low_r.out _) low_r.out _)
set_option maxHeartbeats 800000 in
theorem ich_many (ao : Option Addr) (n cap : Nat) (G : Nat → Pl) (w : World) (hn : 100 < n) : Calls Try.prog 41 #[.slice ao n cap] w fun e w' => e = .returned (.agg #[.int .i64 (chC G n), .int .i64 ((chP G n).a.re), .int .i64 ((chP G n).a.im), .int .i64 ((chP G n).b.re), .int .i64 ((chP G n).b.im), .int .i64 ((chP G n).c.re), .int .i64 ((chP G n).c.im), .int .i64 ((chP G n).d.re), .int .i64 ((chP G n).d.im)]) ∧ Below w.heap.size w w' := by
  rw [show chC G n = 2 by simp [chC, hn], show chP G n = zpl by simp [chP, hn]]
  have hn9 : 100 < (n : Int) := by omega
  go_enter Try.func41, Try.ntmps41
  go_wp2
  refine bodyPost_ret (v := .agg #[.int .i64 2, .int .i64 0, .int .i64 0, .int .i64 0, .int .i64 0, .int .i64 0, .int .i64 0, .int .i64 0, .int .i64 0]) (by simp [results, Try.results41, go_sem] <;> (repeat' (first | rfl | apply And.intro))) rfl ⟨rfl, ?_⟩
  go_grown
set_option maxHeartbeats 800000 in
theorem sch_many (ao : Option Addr) (n cap : Nat) (G : Nat → Pl) (w : World) (hn : 100 < n) : Calls Try.prog 39 #[.slice ao n cap] w fun e w' => e = .returned (.agg #[.int .i64 (chC G n), .int .i64 ((chP G n).a.re), .int .i64 ((chP G n).a.im), .int .i64 ((chP G n).b.re), .int .i64 ((chP G n).b.im), .int .i64 ((chP G n).c.re), .int .i64 ((chP G n).c.im), .int .i64 ((chP G n).d.re), .int .i64 ((chP G n).d.im)]) ∧ Below w.heap.size w w' := by
  rw [show chC G n = 2 by simp [chC, hn], show chP G n = zpl by simp [chP, hn]]
  have hn9 : 100 < (n : Int) := by omega
  go_enter Try.func39, Try.ntmps39
  go_wp2
  refine bodyPost_ret (v := .agg #[.int .i64 2, .int .i64 0, .int .i64 0, .int .i64 0, .int .i64 0, .int .i64 0, .int .i64 0, .int .i64 0, .int .i64 0]) (by simp [results, Try.results39, go_sem] <;> (repeat' (first | rfl | apply And.intro))) rfl ⟨rfl, ?_⟩
  go_grown
end Go.Proofs.Ytloebnlmeplgbaa
