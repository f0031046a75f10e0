/- WriteFrame, of the specification. -/
import Derived.Test.YtdknclkecbdpgaaDoorWg
namespace Go.Proofs.YtdknclkecbdpgaaDoor
open Go.RowKit
set_option linter.unusedVariables false
set_option linter.unusedSimpArgs false
set_option maxRecDepth 20000 in
set_option maxHeartbeats 4000000 in
theorem sWF_0 {w : World} {b off l cap : Nat} {kd : Int} (hm : l ≤ 1000000000000) (h : 100000 < l) (f : Nat → Int) : FB 5 30 #[.agg #[.int .i64 kd, .slice (some ⟨b, off, none⟩) l cap]] w 2 0 (cF f) := by
  unfold FB
  obtain ⟨w0, hw0⟩ : ∃ W, W = (w.alloc (.cells #[.int .i64 kd, .slice (some ⟨b, off, none⟩) l cap] 49)).alloc (.cells #[.int .i64 0, .slice none 0 0] 47) := ⟨_, rfl⟩
  have H0 : Hid (Blk w0 w.heap.size #[.int .i64 kd, .slice (some ⟨b, off, none⟩) l cap] 49 ∧ Blk w0 (w.heap.size + 1) #[.int .i64 0, .slice none 0 0] 47 ∧ Below w.heap.size w w0) := by rw [hw0]; exact ⟨(Blk.new rfl).alloc _, Blk.new (by simp), ((Below.refl _ _).alloc (Nat.le_refl _) _).alloc (by simp) _⟩
  have h1 : (100000 : Int) < l := by omega
  have c0 := H0.out.2.1.cell (j := 0) (v := .int .i64 0) rfl
  have c1 := H0.out.2.1.cell (j := 1) (v := .slice none 0 0) rfl
  have f0 := H0.out.2.1.frozen 0
  have f1 := H0.out.2.1.frozen 1
  rw [hw0] at c0 c1 f0 f1
  have HB : Hid (Below w.heap.size w ((w.alloc (.cells #[.int .i64 kd, .slice (some ⟨b, off, none⟩) l cap] 49)).alloc (.cells #[.int .i64 0, .slice none 0 0] 47))) := by rw [← hw0]; exact H0.out.2.2
  clear hw0 H0
  go_enter Tryd.func30, Tryd.ntmps30
  go_wp2
  refine bodyPost_ret (v := .agg #[.int .i64 2, .slice none 0 0]) (by simp [results, Tryd.results30, go_sem]) rfl ⟨_, rfl, Or.inl ⟨rfl, rfl⟩, ((Below.refl _ _).alloc (Nat.le_refl _) _).alloc (by simp) _⟩
set_option maxRecDepth 20000 in
set_option maxHeartbeats 4000000 in
theorem sWF_1 {w : World} {b off l cap : Nat} {kd : Int} (hm : l ≤ 1000000000000) (h : l ≤ 100000) (h2 : kd < 0) (f : Nat → Int) : FB 5 30 #[.agg #[.int .i64 kd, .slice (some ⟨b, off, none⟩) l cap]] w 1 0 (cF f) := by
  unfold FB
  obtain ⟨w0, hw0⟩ : ∃ W, W = (w.alloc (.cells #[.int .i64 kd, .slice (some ⟨b, off, none⟩) l cap] 49)).alloc (.cells #[.int .i64 0, .slice none 0 0] 47) := ⟨_, rfl⟩
  have H0 : Hid (Blk w0 w.heap.size #[.int .i64 kd, .slice (some ⟨b, off, none⟩) l cap] 49 ∧ Blk w0 (w.heap.size + 1) #[.int .i64 0, .slice none 0 0] 47 ∧ Below w.heap.size w w0) := by rw [hw0]; exact ⟨(Blk.new rfl).alloc _, Blk.new (by simp), ((Below.refl _ _).alloc (Nat.le_refl _) _).alloc (by simp) _⟩
  have h1 : ¬ (100000 : Int) < l := by omega
  have c0 := H0.out.2.1.cell (j := 0) (v := .int .i64 0) rfl
  have c1 := H0.out.2.1.cell (j := 1) (v := .slice none 0 0) rfl
  have f0 := H0.out.2.1.frozen 0
  have f1 := H0.out.2.1.frozen 1
  rw [hw0] at c0 c1 f0 f1
  have HB : Hid (Below w.heap.size w ((w.alloc (.cells #[.int .i64 kd, .slice (some ⟨b, off, none⟩) l cap] 49)).alloc (.cells #[.int .i64 0, .slice none 0 0] 47))) := by rw [← hw0]; exact H0.out.2.2
  clear hw0 H0
  go_enter Tryd.func30, Tryd.ntmps30
  go_wp2
  refine bodyPost_ret (v := .agg #[.int .i64 1, .slice none 0 0]) (by simp [results, Tryd.results30, go_sem]) rfl ⟨_, rfl, Or.inl ⟨rfl, rfl⟩, ((Below.refl _ _).alloc (Nat.le_refl _) _).alloc (by simp) _⟩
set_option maxRecDepth 20000 in
set_option maxHeartbeats 4000000 in
theorem sWF_2 {w : World} {b off l cap : Nat} {kd : Int} (hm : l ≤ 1000000000000) (h : l ≤ 100000) (h2 : 255 < kd) (f : Nat → Int) : FB 5 30 #[.agg #[.int .i64 kd, .slice (some ⟨b, off, none⟩) l cap]] w 1 0 (cF f) := by
  unfold FB
  obtain ⟨w0, hw0⟩ : ∃ W, W = (w.alloc (.cells #[.int .i64 kd, .slice (some ⟨b, off, none⟩) l cap] 49)).alloc (.cells #[.int .i64 0, .slice none 0 0] 47) := ⟨_, rfl⟩
  have H0 : Hid (Blk w0 w.heap.size #[.int .i64 kd, .slice (some ⟨b, off, none⟩) l cap] 49 ∧ Blk w0 (w.heap.size + 1) #[.int .i64 0, .slice none 0 0] 47 ∧ Below w.heap.size w w0) := by rw [hw0]; exact ⟨(Blk.new rfl).alloc _, Blk.new (by simp), ((Below.refl _ _).alloc (Nat.le_refl _) _).alloc (by simp) _⟩
  have h1 : ¬ (100000 : Int) < l := by omega
  have h3 : ¬ kd < 0 := by omega
  have c0 := H0.out.2.1.cell (j := 0) (v := .int .i64 0) rfl
  have c1 := H0.out.2.1.cell (j := 1) (v := .slice none 0 0) rfl
  have f0 := H0.out.2.1.frozen 0
  have f1 := H0.out.2.1.frozen 1
  rw [hw0] at c0 c1 f0 f1
  have HB : Hid (Below w.heap.size w ((w.alloc (.cells #[.int .i64 kd, .slice (some ⟨b, off, none⟩) l cap] 49)).alloc (.cells #[.int .i64 0, .slice none 0 0] 47))) := by rw [← hw0]; exact H0.out.2.2
  clear hw0 H0
  go_enter Tryd.func30, Tryd.ntmps30
  go_wp2
  refine bodyPost_ret (v := .agg #[.int .i64 1, .slice none 0 0]) (by simp [results, Tryd.results30, go_sem]) rfl ⟨_, rfl, Or.inl ⟨rfl, rfl⟩, ((Below.refl _ _).alloc (Nat.le_refl _) _).alloc (by simp) _⟩
set_option maxRecDepth 20000 in
set_option maxHeartbeats 4000000 in
theorem sWF_3 {w : World} {b off l cap : Nat} {kd : Int} (hm : l ≤ 1000000000000) (h : l ≤ 100000) (h2 : 0 ≤ kd) (h3 : kd ≤ 255) (h4 : 1000 < l) (f : Nat → Int) : FB 5 30 #[.agg #[.int .i64 kd, .slice (some ⟨b, off, none⟩) l cap]] w 1 0 (cF f) := by
  unfold FB
  obtain ⟨w0, hw0⟩ : ∃ W, W = (w.alloc (.cells #[.int .i64 kd, .slice (some ⟨b, off, none⟩) l cap] 49)).alloc (.cells #[.int .i64 0, .slice none 0 0] 47) := ⟨_, rfl⟩
  have H0 : Hid (Blk w0 w.heap.size #[.int .i64 kd, .slice (some ⟨b, off, none⟩) l cap] 49 ∧ Blk w0 (w.heap.size + 1) #[.int .i64 0, .slice none 0 0] 47 ∧ Below w.heap.size w w0) := by rw [hw0]; exact ⟨(Blk.new rfl).alloc _, Blk.new (by simp), ((Below.refl _ _).alloc (Nat.le_refl _) _).alloc (by simp) _⟩
  have h1 : ¬ (100000 : Int) < l := by omega
  have h5 : ¬ kd < 0 := by omega
  have h6 : ¬ 255 < kd := by omega
  have h7 : (1000 : Int) < l := by omega
  have c0 := H0.out.2.1.cell (j := 0) (v := .int .i64 0) rfl
  have c1 := H0.out.2.1.cell (j := 1) (v := .slice none 0 0) rfl
  have f0 := H0.out.2.1.frozen 0
  have f1 := H0.out.2.1.frozen 1
  rw [hw0] at c0 c1 f0 f1
  have HB : Hid (Below w.heap.size w ((w.alloc (.cells #[.int .i64 kd, .slice (some ⟨b, off, none⟩) l cap] 49)).alloc (.cells #[.int .i64 0, .slice none 0 0] 47))) := by rw [← hw0]; exact H0.out.2.2
  clear hw0 H0
  go_enter Tryd.func30, Tryd.ntmps30
  go_wp2
  refine bodyPost_ret (v := .agg #[.int .i64 1, .slice none 0 0]) (by simp [results, Tryd.results30, go_sem]) rfl ⟨_, rfl, Or.inl ⟨rfl, rfl⟩, ((Below.refl _ _).alloc (Nat.le_refl _) _).alloc (by simp) _⟩
def bF (kd : Int) (l : Nat) (G : Nat → Int) (i : Nat) : Int := wh kd l G (2 + i)
theorem bl1 (kd : Int) (l : Nat) (G : Nat → Int) : vl (cF (bF kd l G)) 1 = [.int .u8 kd] := rfl
theorem bl3 (kd : Int) (l : Nat) (G : Nat → Int) : vl (cF (bF kd l G)) 1 ++ [.int .u8 ((l : Int) / 256), .int .u8 ((l : Int) % 256)] = vl (cF (bF kd l G)) 3 := rfl
theorem blp (kd : Int) (l : Nat) (G : Nat → Int) : vl (cF (bF kd l G)) 3 ++ vl (cF G) l = vl (cF (bF kd l G)) (3 + l) := by
  rw [← vl_app (cF (bF kd l G)) 3 l]
  congr 1
  refine vl_congr fun i hi => ?_
  show Value.int .u8 (G i) = Value.int .u8 (bF kd l G (3 + i))
  unfold bF wh
  rw [if_neg (by omega), if_neg (by omega), if_neg (by omega), if_neg (by omega), if_neg (by omega), show 2 + (3 + i) - 5 = i by omega]
theorem wlb (kd : Int) (l : Nat) (G : Nat → Int) : vl (cF (wfr kd l G)) 2 ++ vl (cF (bF kd l G)) (3 + l) = vl (cF (wfr kd l G)) (2 + (3 + l)) := by
  rw [← vl_app (cF (wfr kd l G)) 2 (3 + l)]
  congr 1
  refine vl_congr fun i hi => ?_
  show Value.int .u8 (bF kd l G i) = Value.int .u8 (wfr kd l G (2 + i))
  rw [wfr_lo (by omega)]
  rfl
theorem wb7 {w x6 x7 : World} {B l : Nat} {v6 v7 : Value} {kd : Int} {G : Nat → Int} {pv : Value} (T6 : Wt w x6 B v6 3 (cF (bF kd l G)) kd pv) (o7 : x7.ownsRow B 5 1 v7 (3 + l) (vl (cF (bF kd l G)) 3 ++ vl (cF G) l)) (g7 : x6.grownBy x7 v6.ownBlock) : ∃ g cp, v7 = .slice (some ⟨g, 0, none⟩) (3 + l) cp ∧ Hid (Wt w x7 x7.heap.size (.slice none 0 0) 0 (cF (wfr kd l G)) kd pv) ∧ Hid (∀ i, i < 3 + l → x7.cell? ⟨g, 0 + i, none⟩ = some (.int .u8 (bF kd l G i))) := by
  have h7 : Wt w x7 B v7 (3 + l) (cF (bF kd l G)) kd pv := T6.grow ((Below.refl _ _).grown g7 T6.lt (fun k hk => (T6.own.lt k hk).1)) (by rw [blp] at o7; exact o7)
  have h8 := h7.own
  rw [show 3 + l = (2 + l) + 1 by omega] at h8
  obtain ⟨g, cp, hv7, hcp⟩ := own_cap h8
  rw [show (2 + l) + 1 = 3 + l by omega] at hv7 hcp
  subst hv7
  refine ⟨g, cp, rfl, ⟨⟨rfl, Or.inl ⟨rfl, rfl⟩⟩, h7.fbox, h7.rbox, h7.below, Nat.le_trans h7.lb h7.lt, Nat.le_refl _⟩, fun i hi => ?_⟩
  rcases owned_vl h7.own with ⟨e, _⟩ | ⟨g', cq, e, _, _, hs⟩
  · cases e
  · cases e
    exact hs.cell (i := i) (by omega)
theorem wc7 {w x4 x5 : World} {B g l : Nat} {v4 v5 : Value} {kd : Int} {G : Nat → Int} {pv : Value} (T4 : Wt w x4 B v4 2 (cF (wfr kd l G)) kd pv) (C4 : ∀ i, i < 3 + l → x4.cell? ⟨g, 0 + i, none⟩ = some (.int .u8 (bF kd l G i))) (hg : g < B) (o5 : x5.ownsRow B 5 1 v5 (2 + (3 + l)) (vl (cF (wfr kd l G)) 2 ++ vl (cF (bF kd l G)) (3 + l))) (g5 : x4.grownBy x5 v4.ownBlock) : Hid (Wt w x5 B v5 (5 + l) (cF (wfr kd l G)) kd pv) ∧ Hid (∀ i, i < 3 + l → x5.cell? ⟨g, 0 + i, none⟩ = some (.int .u8 (bF kd l G i))) := by
  have b5 : Below B x4 x5 := (Below.refl _ _).grown g5 T4.lt (fun k hk => (T4.own.lt k hk).1)
  refine ⟨T4.grow b5 ?_, fun i hi => (b5.cell hg).trans (C4 i hi)⟩
  rw [wlb, show 2 + (3 + l) = 5 + l by omega] at o5
  exact o5
set_option maxRecDepth 20000 in
set_option maxHeartbeats 4000000 in
theorem sWF_ok {w : World} {b off l cap : Nat} {kd : Int} {G : Nat → Int} (hP : ∀ i, i < l → w.cell? ⟨b, off + i, none⟩ = some (.int .u8 (G i))) (hG : By l G) (k0 : 0 ≤ kd) (k1 : kd ≤ 255) (hl : l ≤ 1000) : FB 5 30 #[.agg #[.int .i64 kd, .slice (some ⟨b, off, none⟩) l cap]] w 0 (5 + l + 2) (cF (wfr kd l G)) := by
  unfold FB
  have hm : l ≤ 1000000000000 := by omega
  have HC : Hid (∀ W, Below w.heap.size w W → ∀ i, i < l → W.cell? ⟨b, off + i, none⟩ = some (.int .u8 (G i))) := fun W hb i hi => (hb.cell (World.block_lt_of_cell? _ _ (hP i hi))).trans (hP i hi)
  have HB : Hid (By (5 + l) (wh kd l G)) := wh_by k0 k1 hl hG
  obtain ⟨s0, s1⟩ := wS_bd k0 k1 hl hG
  have HW : Hid (wS kd l G = cs (fun i => wh kd l G (2 + i)) (3 + l)) := rfl
  obtain ⟨S, hS⟩ : ∃ S, S = wS kd l G := ⟨_, rfl⟩
  have HS : Hid (S = wS kd l G) := hS
  rw [← hS] at s0 s1 HW
  clear hS hP hG
  have hk2 : kd % 256 = kd := by omega
  have hk3 : ¬ kd < 0 := by omega
  have hk4 : ¬ 255 < kd := by omega
  have hl2 : (l : Int) ≤ 1000 := by omega
  have hl3 : ¬ (1000 : Int) < l := by omega
  have hl4 : ¬ (100000 : Int) < l := by omega
  obtain ⟨w0, hw0⟩ : ∃ W, W = (w.alloc (.cells #[.int .i64 kd, .slice (some ⟨b, off, none⟩) l cap] 49)).alloc (.cells #[.int .i64 0, .slice none 0 0] 47) := ⟨_, rfl⟩
  have H0 : Hid (Blk w0 w.heap.size #[.int .i64 kd, .slice (some ⟨b, off, none⟩) l cap] 49 ∧ Blk w0 (w.heap.size + 1) #[.int .i64 0, .slice none 0 0] 47 ∧ Below w.heap.size w w0) := by rw [hw0]; exact ⟨(Blk.new rfl).alloc _, Blk.new (by simp), ((Below.refl _ _).alloc (Nat.le_refl _) _).alloc (by simp) _⟩
  have d0 := H0.out.1.cell (j := 0) (v := .int .i64 kd) rfl
  have d1 := H0.out.1.cell (j := 1) (v := .slice (some ⟨b, off, none⟩) l cap) rfl
  have T1 : Hid (Wt w (w0.alloc (.cells #[.int .u8 kd] 5)) w0.heap.size (.slice (some ⟨w0.heap.size, 0, none⟩) 1 1) 1 (cF (bF kd l G)) kd (.slice (some ⟨b, off, none⟩) l cap)) := ⟨owns_one _ _ _ rfl, H0.out.1.alloc _, H0.out.2.1.alloc _, H0.out.2.2.alloc H0.out.2.2.size _, H0.out.2.1.lt, by simp⟩
  have hz : w0.heap.size = w.heap.size + 1 + 1 := by rw [hw0]; simp
  rw [hz] at T1
  rw [hw0] at d0 d1
  go_enter Tryd.func30, Tryd.ntmps30
  go_wp2_with fail
  rw [← hw0]
  clear hw0 d0 d1 H0
  refine Calls.mono (sPut_any T1.out.own (by omega) T1.out.lt (by omega) (by omega)) ?_
  rintro e x2 ⟨v2, rfl, o2, b2⟩
  have T2 : Hid (Wt w x2 (w.heap.size + 1 + 1) v2 3 (cF (bF kd l G)) kd (.slice (some ⟨b, off, none⟩) l cap)) := T1.out.grow b2 (by rw [← bl3]; exact o2)
  clear o2 b2 T1 hz
  have d1 := T2.out.fbox.cell (j := 1) (v := .slice (some ⟨b, off, none⟩) l cap) rfl
  have HC2 : Hid (∀ i, i < l → x2.cell? ⟨b, off + i, none⟩ = some (.int .u8 (G i))) := HC.out _ T2.out.below
  go_wp2_with (first | (at_builtin; refine app_law rfl (.tmp 33) (.tmp 35) rfl _ l G (w.heap.size + 1 + 1) v2 3 _ rfl T2.out.own b off cap rfl HC2.out (by omega) (by omega) T2.out.lt ?_; intro v3 x3 o3 g3; obtain ⟨g, cp, h3, T3, C3⟩ := wb7 T2.out o3 g3))
  refine Calls.mono (sPut_any T3.out.own (by omega) T3.out.lt (by decide) (by decide)) ?_
  rintro e x4 ⟨v4, rfl, o4, b4⟩
  have T4 : Hid (Wt w x4 x3.heap.size v4 2 (cF (wfr kd l G)) kd (.slice (some ⟨b, off, none⟩) l cap)) := T3.out.grow b4 (by rw [wl2]; exact o4)
  have C4 : Hid (∀ i, i < 3 + l → x4.cell? ⟨g, 0 + i, none⟩ = some (.int .u8 (bF kd l G i))) := fun i hi => (b4.cell (World.block_lt_of_cell? _ _ (C3.out i hi))).trans (C3.out i hi)
  have hg : g < x3.heap.size := World.block_lt_of_cell? _ _ (C3.out 0 (by omega))
  clear o4 b4 T3 T2 C3 d1 HC2
  go_wp2_with (first | (at_builtin; refine app_law rfl (.tmp 37) (.tmp 38) rfl _ (3 + l) (bF kd l G) x3.heap.size v4 2 _ rfl T4.out.own g 0 cp rfl C4.out (by omega) (by omega) T4.out.lt ?_; intro v5 x5 o5 g5; obtain ⟨T5, C5⟩ := wc7 T4.out C4.out hg o5 g5))
  refine Calls.mono (sSum_any (Or.inr ⟨g, 0, cp, rfl, C5.out⟩) (by exact HB.out.from_ 2 (by omega)) (by omega)) ?_
  rintro e x6 ⟨rfl, hx6⟩
  rw [show sumV (bF kd l G) (3 + l) = S by unfold sumV; rw [if_neg (by omega), HW.out]; rfl]
  rw [← hx6] at T5
  clear hx6 C5 C4 T4 HB
  go_wp2_with fail
  refine Calls.mono (sPut_any T5.out.own (by omega) T5.out.lt s0 s1) ?_
  rintro e x9 ⟨v9, rfl, o9, b9⟩
  have T9 : Hid (Wt w x9 x3.heap.size v9 (5 + l + 2) (cF (wfr kd l G)) kd (.slice (some ⟨b, off, none⟩) l cap)) := T5.out.grow b9 (by rw [← wl7, ← HS.out]; exact o9)
  clear o9 b9 T5
  obtain ⟨ao9, cp9, rfl⟩ := (owned_vl T9.out.own).form
  have c0 := T9.out.rbox.cell (j := 0) (v := .int .i64 0) rfl
  have c1 := T9.out.rbox.cell (j := 1) (v := .slice none 0 0) rfl
  have f0 := T9.out.rbox.frozen 0
  have f1 := T9.out.rbox.frozen 1
  go_wp2
  refine bodyPost_ret (v := .agg #[.int .i64 0, .slice ao9 (5 + l + 2) cp9]) (by simp [results, Tryd.results30, go_sem, c0, c1]) rfl ⟨_, rfl, ?_, (T9.out.below.setCell (by simp) _).setCell (by simp) _⟩
  have hlb := T9.out.lb
  rcases owned_vl T9.out.own with ⟨e1, e2⟩ | ⟨g', cq, e1, r1, r2, r3⟩
  · exact Or.inl ⟨e1, e2⟩
  · exact Or.inr ⟨g', cq, e1, by omega, by simpa using r2, (r3.setOther (by simp; omega) _).setOther (by simp; omega) _⟩
end Go.Proofs.YtdknclkecbdpgaaDoor
