/- WriteFrame, of the program. -/
import Derived.Test.YtdknclkecbdpgaaDoorWf
namespace Go.Proofs.YtdknclkecbdpgaaDoor
open Go.RowKit
set_option linter.unusedVariables false
set_option linter.unusedSimpArgs false
theorem own_cap {W : World} {B n : Nat} {v : Value} {xs : List Value} (h : W.ownsRow B 5 1 v (n + 1) xs) : ∃ g cp, v = .slice (some ⟨g, 0, none⟩) (n + 1) cp ∧ n + 1 ≤ cp := by
  obtain ⟨_, h | ⟨g, cap, cur, hv, hg, hh, h1, h2, h3, h4⟩⟩ := h
  · exact absurd h.2 (by omega)
  · exact ⟨g, cap, hv, h1⟩
theorem mk7 (l : Nat) (hl : l ≤ 1000) (W : World) : (Instr.makeSlice 22 (.int .i64 0) (.int .i64 (7 + (l : Int)))).run Tryd.prog W = .ok (.slice (some ⟨W.heap.size, 0, none⟩) 0 (7 + l)) (W.alloc (.cells (madeCells #[.int .u8 0] (7 + l)) 5)) := by
  have h := mk0 (7 + l) (by omega) W
  rw [Nat.mul_one] at h
  rw [show (7 + (l : Int)) = ((7 + l : Nat) : Int) by omega]
  exact h
/-- The bytes of the list from 2 on, to be summed. -/
theorem wa7 {w x6 x7 : World} {B l : Nat} {v6 v7 : Value} {kd : Int} {G : Nat → Int} {pv : Value} (T6 : Wt w x6 B v6 5 (cF (wfr kd l G)) kd pv) (o7 : x7.ownsRow B 5 1 v7 (5 + l) (vl (cF (wfr kd l G)) 5 ++ vl (cF G) l)) (g7 : x6.grownBy x7 v6.ownBlock) : ∃ g cp, v7 = .slice (some ⟨g, 0, none⟩) (5 + l) cp ∧ 5 + l ≤ cp ∧ Hid (Wt w x7 B (.slice (some ⟨g, 0, none⟩) (5 + l) cp) (5 + l) (cF (wfr kd l G)) kd pv) := by
  have h7 : Wt w x7 B v7 (5 + l) (cF (wfr kd l G)) kd pv := T6.grow ((Below.refl _ _).grown g7 T6.lt (fun k hk => (T6.own.lt k hk).1)) (by rw [wlp] at o7; exact o7)
  have h8 := h7.own
  rw [show 5 + l = (4 + l) + 1 by omega] at h8
  obtain ⟨g, cp, hv7, hcp⟩ := own_cap h8
  rw [show (4 + l) + 1 = 5 + l by omega] at hv7 hcp
  subst hv7
  exact ⟨g, cp, rfl, hcp, h7⟩
theorem sum_rd {W : World} {B g cp l : Nat} {kd : Int} {G : Nat → Int} (h : W.ownsRow B 5 1 (.slice (some ⟨g, 0, none⟩) (5 + l) cp) (5 + l) (vl (cF (wfr kd l G)) (5 + l))) : RdB W (.slice (some ⟨g, 2, none⟩) (5 + l - 2) (cp - 2)) (5 + l - 2) (fun i => wh kd l G (2 + i)) := by
  rcases owned_vl h with ⟨e, _⟩ | ⟨g', cq, e, _, _, hs⟩
  · cases e
  · cases e
    refine Or.inr ⟨g, 2, cp - 2, rfl, fun i hi => ?_⟩
    have := hs.cell (i := 2 + i) (by omega)
    rw [Nat.zero_add] at this
    rw [this]
    show some (Value.int .u8 (wfr kd l G (2 + i))) = _
    rw [wfr_lo (by omega)]
set_option maxRecDepth 20000 in
set_option maxHeartbeats 4000000 in
theorem iWF_bad {w : World} {b off l cap : Nat} {kd : Int} {G : Nat → Int} (hm : l ≤ 1000000000000) (hc : wcode kd l ≠ 0) (hE : Et w) (f : Nat → Int) : FB 5 32 #[.agg #[.int .i64 kd, .slice (some ⟨b, off, none⟩) l cap]] w (wcode kd l) 0 (cF f) := by
  unfold FB
  obtain ⟨c, hcc⟩ : ∃ c, c = wcode kd l := ⟨_, rfl⟩
  rw [← hcc] at hc ⊢
  have hcb : (c != 0) = true := by simp [hc]
  have HE : Hid (Et w) := hE
  have HFF : Hid (∀ W, Calls Tryd.prog 93 #[.agg #[.int .i64 kd, .slice (some ⟨b, off, none⟩) l cap]] W fun e w' => e = .returned (er c) ∧ Below W.heap.size W w') := fun W => by rw [hcc]; exact iFF_any kd _ l cap hm W
  obtain ⟨w0, hw0⟩ : ∃ W, W = (w.alloc (.cells #[.int .i64 kd, .slice (some ⟨b, off, none⟩) l cap] 49)).alloc (.cells #[.int .i64 0, .slice none 0 0] 47) := ⟨_, rfl⟩
  have H0 : Hid (Blk w0 w.heap.size #[.int .i64 kd, .slice (some ⟨b, off, none⟩) l cap] 49 ∧ Blk w0 (w.heap.size + 1) #[.int .i64 0, .slice none 0 0] 47 ∧ Below w.heap.size w w0) := by rw [hw0]; exact ⟨(Blk.new rfl).alloc _, Blk.new (by simp), ((Below.refl _ _).alloc (Nat.le_refl _) _).alloc (by simp) _⟩
  clear hE hcc
  go_enter Tryd.func32, Tryd.ntmps32
  go_wp2_with fail
  rw [← hw0]
  clear hw0
  refine Calls.mono (HFF.out _) ?_
  rintro e w1 ⟨rfl, b1⟩
  have H1 : Hid (Blk w1 w.heap.size #[.int .i64 kd, .slice (some ⟨b, off, none⟩) l cap] 49 ∧ Blk w1 (w.heap.size + 1) #[.int .i64 0, .slice none 0 0] 47 ∧ Below w.heap.size w w1) := ⟨H0.out.1.later b1, H0.out.2.1.later b1, H0.out.2.2.trans (b1.mono H0.out.2.2.size)⟩
  clear b1 H0 HFF
  go_wp2_with fail
  refine Calls.mono (code_any c _ (HE.out.later H1.out.2.2)) ?_
  rintro e w2 ⟨rfl, b1⟩
  have H2 : Hid (Blk w2 w.heap.size #[.int .i64 kd, .slice (some ⟨b, off, none⟩) l cap] 49 ∧ Blk w2 (w.heap.size + 1) #[.int .i64 0, .slice none 0 0] 47 ∧ Below w.heap.size w w2) := ⟨H1.out.1.later b1, H1.out.2.1.later b1, H1.out.2.2.trans (b1.mono H1.out.2.2.size)⟩
  clear b1 H1
  have c0 := H2.out.2.1.cell (j := 0) (v := .int .i64 0) rfl
  have c1 := H2.out.2.1.cell (j := 1) (v := .slice none 0 0) rfl
  have f0 := H2.out.2.1.frozen 0
  have f1 := H2.out.2.1.frozen 1
  go_wp2
  refine bodyPost_ret (v := .agg #[.int .i64 c, .slice none 0 0]) (by simp [results, Tryd.results32, go_sem, c0, c1]) rfl ⟨_, rfl, Or.inl ⟨rfl, rfl⟩, (H2.out.2.2.setCell (by simp) _).setCell (by simp) _⟩
set_option maxRecDepth 20000 in
set_option maxHeartbeats 4000000 in
theorem iWF_ok {w : World} {b off l cap : Nat} {kd : Int} {G : Nat → Int} (hP : ∀ i, i < l → w.cell? ⟨b, off + i, none⟩ = some (.int .u8 (G i))) (hG : By l G) (k0 : 0 ≤ kd) (k1 : kd ≤ 255) (hl : l ≤ 1000) (hc : wcode kd l = 0) (hE : Et w) : FB 5 32 #[.agg #[.int .i64 kd, .slice (some ⟨b, off, none⟩) l cap]] w 0 (5 + l + 2) (cF (wfr kd l G)) := by
  unfold FB
  have hm : l ≤ 1000000000000 := by omega
  have HC : Hid (∀ W, Below w.heap.size w W → ∀ i, i < l → W.cell? ⟨b, off + i, none⟩ = some (.int .u8 (G i))) := fun W hb i hi => (hb.cell (World.block_lt_of_cell? _ _ (hP i hi))).trans (hP i hi)
  have HB : Hid (By (5 + l) (wh kd l G)) := wh_by k0 k1 hl hG
  obtain ⟨s0, s1⟩ := wS_bd k0 k1 hl hG
  have HW : Hid (wS kd l G = cs (fun i => wh kd l G (2 + i)) (3 + l)) := rfl
  obtain ⟨S, hS⟩ : ∃ S, S = wS kd l G := ⟨_, rfl⟩
  have HS : Hid (S = wS kd l G) := hS
  rw [← hS] at s0 s1 HW
  clear hS hP hG
  have hmk := mk7 l hl
  have hk2 : kd % 256 = kd := by omega
  have hl2 : (l : Int) ≤ 1000 := by omega
  have HE : Hid (Et w) := hE
  have HFF : Hid (∀ W, Calls Tryd.prog 93 #[.agg #[.int .i64 kd, .slice (some ⟨b, off, none⟩) l cap]] W fun e w' => e = .returned (er 0) ∧ Below W.heap.size W w') := fun W => by rw [← hc]; exact iFF_any kd _ l cap hm W
  obtain ⟨w0, hw0⟩ : ∃ W, W = (w.alloc (.cells #[.int .i64 kd, .slice (some ⟨b, off, none⟩) l cap] 49)).alloc (.cells #[.int .i64 0, .slice none 0 0] 47) := ⟨_, rfl⟩
  have H0 : Hid (Blk w0 w.heap.size #[.int .i64 kd, .slice (some ⟨b, off, none⟩) l cap] 49 ∧ Blk w0 (w.heap.size + 1) #[.int .i64 0, .slice none 0 0] 47 ∧ Below w.heap.size w w0) := by rw [hw0]; exact ⟨(Blk.new rfl).alloc _, Blk.new (by simp), ((Below.refl _ _).alloc (Nat.le_refl _) _).alloc (by simp) _⟩
  clear hE hc
  go_enter Tryd.func32, Tryd.ntmps32
  go_wp2_with fail
  rw [← hw0]
  clear hw0
  refine Calls.mono (HFF.out _) ?_
  rintro e w1 ⟨rfl, b1⟩
  have H1 : Hid (Blk w1 w.heap.size #[.int .i64 kd, .slice (some ⟨b, off, none⟩) l cap] 49 ∧ Blk w1 (w.heap.size + 1) #[.int .i64 0, .slice none 0 0] 47 ∧ Below w.heap.size w w1) := ⟨H0.out.1.later b1, H0.out.2.1.later b1, H0.out.2.2.trans (b1.mono H0.out.2.2.size)⟩
  clear b1 H0 HFF
  go_wp2_with fail
  refine Calls.mono (code_any 0 _ (HE.out.later H1.out.2.2)) ?_
  rintro e w2 ⟨rfl, b1⟩
  have H2 : Hid (Blk w2 w.heap.size #[.int .i64 kd, .slice (some ⟨b, off, none⟩) l cap] 49 ∧ Blk w2 (w.heap.size + 1) #[.int .i64 0, .slice none 0 0] 47 ∧ Below w.heap.size w w2) := ⟨H1.out.1.later b1, H1.out.2.1.later b1, H1.out.2.2.trans (b1.mono H1.out.2.2.size)⟩
  clear b1 H1
  obtain ⟨x3, hx3⟩ : ∃ W, W = w2.alloc (.cells (madeCells #[.int .u8 0] (7 + l)) 5) := ⟨_, rfl⟩
  have T3 : Hid (Wt w x3 w2.heap.size (.slice (some ⟨w2.heap.size, 0, none⟩) 0 (7 + l)) 0 (cF (wfr kd l G)) kd (.slice (some ⟨b, off, none⟩) l cap)) := by
    show Wt _ _ _ _ _ _ _ _
    rw [hx3]
    have hw9 := owns_made w2 #[.int .u8 0] (7 + l) 1 5 (by unfold maxLen; omega)
    rw [Nat.mul_one] at hw9
    exact ⟨hw9, H2.out.1.alloc _, H2.out.2.1.alloc _, H2.out.2.2.alloc H2.out.2.2.size _, H2.out.2.1.lt, by simp⟩
  have d1 := H2.out.1.cell (j := 1) (v := .slice (some ⟨b, off, none⟩) l cap) rfl
  go_wp2_with fail
  rw [← hx3]
  clear hx3 hmk d1
  refine Calls.mono (iPut_any T3.out.own (by omega) T3.out.lt (by decide) (by decide)) ?_
  rintro e x4 ⟨v4, rfl, o4, b4⟩
  have T4 : Hid (Wt w x4 w2.heap.size v4 2 (cF (wfr kd l G)) kd (.slice (some ⟨b, off, none⟩) l cap)) := T3.out.grow b4 (by rw [wl2]; exact o4)
  clear o4 b4 T3 H2
  have d0 := T4.out.fbox.cell (j := 0) (v := .int .i64 kd) rfl
  have d1 := T4.out.fbox.cell (j := 1) (v := .slice (some ⟨b, off, none⟩) l cap) rfl
  go_wp2_with (first | (at_builtin; refine push_law rfl (.tmp 19) (.tmp 23) 22 rfl 5 (.int .u8 0) 1 1 Tryd.underlying22 info5 rfl (by decide) (by decide) _ [.int .u8 kd] rfl (by simp [Value.oneCell']) w2.heap.size v4 2 _ rfl T4.out.own 1 rfl (by omega) T4.out.lt ?_; intro v5 x5 o5 g5 n5; have T5 : Hid (Wt w x5 w2.heap.size v5 3 (cF (wfr kd l G)) kd (.slice (some ⟨b, off, none⟩) l cap)) := T4.out.grow (push_below T4.out.own g5 (Below.refl _ _) T4.out.lt) (by rw [← wl3]; exact o5); clear o5 g5 n5 d0 d1; have d0 := T5.out.fbox.cell (j := 0) (v := .int .i64 kd) rfl; have d1 := T5.out.fbox.cell (j := 1) (v := .slice (some ⟨b, off, none⟩) l cap) rfl))
  refine Calls.mono (iPut_any T5.out.own (by omega) T5.out.lt (by omega) (by omega)) ?_
  rintro e x6 ⟨v6, rfl, o6, b6⟩
  have T6 : Hid (Wt w x6 w2.heap.size v6 5 (cF (wfr kd l G)) kd (.slice (some ⟨b, off, none⟩) l cap)) := T5.out.grow b6 (by rw [← wl5]; exact o6)
  clear o6 b6 T4 T5 d0 d1
  have d1 := T6.out.fbox.cell (j := 1) (v := .slice (some ⟨b, off, none⟩) l cap) rfl
  have HC6 : Hid (∀ i, i < l → x6.cell? ⟨b, off + i, none⟩ = some (.int .u8 (G i))) := HC.out _ T6.out.below
  go_wp2_with (first | (at_builtin; refine app_law rfl (.tmp 30) (.tmp 32) rfl _ l G w2.heap.size v6 5 _ rfl T6.out.own b off cap rfl HC6.out (by omega) (by omega) T6.out.lt ?_; intro v7 x7 o7 g7; obtain ⟨g, cp, h7, hcp, T7⟩ := wa7 T6.out o7 g7))
  refine Calls.mono (iSum_any (sum_rd T7.out.own) (by rw [show 5 + l - 2 = 3 + l by omega]; exact HB.out.from_ 2 (by omega)) (by omega) (HE.out.later T7.out.below)) ?_
  rintro e x8 ⟨rfl, b8⟩
  rw [show sumV (fun i => wh kd l G (2 + i)) (5 + l - 2) = S by rw [show 5 + l - 2 = 3 + l by omega]; unfold sumV; rw [if_neg (by omega), HW.out]]
  have T8 : Hid (Wt w x8 w2.heap.size (.slice (some ⟨g, 0, none⟩) (5 + l) cp) (5 + l) (cF (wfr kd l G)) kd (.slice (some ⟨b, off, none⟩) l cap)) := T7.out.grow (b8.mono T7.out.lt) (owns_later T7.out.own b8)
  clear b8 T6 T7 d1 HC6 HB
  go_wp2_with fail
  refine Calls.mono (iPut_any T8.out.own (by omega) T8.out.lt s0 s1) ?_
  rintro e x9 ⟨v9, rfl, o9, b9⟩
  have T9 : Hid (Wt w x9 w2.heap.size v9 (5 + l + 2) (cF (wfr kd l G)) kd (.slice (some ⟨b, off, none⟩) l cap)) := T8.out.grow b9 (by rw [← wl7, ← HS.out]; exact o9)
  clear o9 b9 T8
  obtain ⟨ao9, cp9, rfl⟩ := (owned_vl T9.out.own).form
  have c0 := T9.out.rbox.cell (j := 0) (v := .int .i64 0) rfl
  have c1 := T9.out.rbox.cell (j := 1) (v := .slice none 0 0) rfl
  have f0 := T9.out.rbox.frozen 0
  have f1 := T9.out.rbox.frozen 1
  go_wp2
  refine bodyPost_ret (v := .agg #[.int .i64 0, .slice ao9 (5 + l + 2) cp9]) (by simp [results, Tryd.results32, go_sem, c0, c1]) rfl ⟨_, rfl, ?_, (T9.out.below.setCell (by simp) _).setCell (by simp) _⟩
  have hlb := T9.out.lb
  rcases owned_vl T9.out.own with ⟨e1, e2⟩ | ⟨g', cq, e1, r1, r2, r3⟩
  · exact Or.inl ⟨e1, e2⟩
  · exact Or.inr ⟨g', cq, e1, by omega, by simpa using r2, (r3.setOther (by simp; omega) _).setOther (by simp; omega) _⟩
end Go.Proofs.YtdknclkecbdpgaaDoor
