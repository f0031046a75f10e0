/- Paths: a code, points and merits: how one that comes in is opened; sizes, copies, comparisons. -/
import Derived.Test.YtelejihgechmgaaArgrow
import Derived.Test.YtelejihgechmgaaAp
namespace Go.Proofs.Ytelejihgechmgaa
open Go.ChangeShapes Go.WideShapes Go.ChangeAt Go.RowKit Go.Joins Go.Deep
set_option linter.unusedVariables false
set_option linter.unusedSimpArgs false
theorem RdMat.at {w : World} {ao : Option Addr} {n cap : Nat} {L : Nat → Nat} {F : Rm.Mx} (h : RdMat w (.slice ao n cap) n L F) {k : Nat} (hk : k < n) :
    ∃ b off po pc, ao = some ⟨b, off, none⟩ ∧ w.cell? ⟨b, off + k, none⟩ = some (.slice po (L k) pc) ∧ RdRow w (.slice po (L k) pc) (L k) (F k) := by
  rcases h with ⟨ao', cap', e, e2⟩ | ⟨b, off, cap', vs, e, hc⟩
  · omega
  · simp only [Value.slice.injEq] at e
    obtain ⟨h1, h2⟩ := hc k hk
    obtain ⟨po, pc, ep⟩ := h2.shape
    rw [ep] at h1 h2
    exact ⟨b, off, po, pc, e.1, h1, h2⟩
/-- A path to be read. -/
structure RdP (w : World) (pv mv : Value) (n : Nat) (Ls : Nat → Nat) (F : Rm.Mx) (nm : Nat) (M : Nat → Int) : Prop where
  pts : RdMat w pv n Ls F
  mer : RdRow w mv nm M
theorem RdP.later {w w' : World} {pv mv : Value} {n nm : Nat} {Ls : Nat → Nat} {F : Rm.Mx} {M : Nat → Int} (h : RdP w pv mv n Ls F nm M) (hb : Below w.heap.size w w') : RdP w' pv mv n Ls F nm M := ⟨h.pts.later hb, h.mer.later hb⟩
structure PFew (n : Nat) (Ls : Nat → Nat) (nm : Nat) : Prop where
  all : n + Sm Ls n + nm ≤ 1048576
theorem PFew.row {n nm : Nat} {Ls : Nat → Nat} (h : PFew n Ls nm) {i : Nat} (hi : i < n) : Ls i ≤ 1048576 := by
  have h1 := le_Sm (L := Ls) hi
  have h2 := h.all
  omega
def ToldP (n : Nat) (Ls : Nat → Nat) (nm : Nat) (left r : Int) : Prop := r = -1 ∨ (0 ≤ r ∧ r + n + Sm Ls n + nm = left)
set_option maxRecDepth 20000 in
set_option maxHeartbeats 1600000 in
theorem szPath_any {w : World} {c : Int} {ao mo : Option Addr} {n nm cap mc : Nat} {Ls : Nat → Nat} {F : Rm.Mx} (h : RdMat w (.slice ao n cap) n Ls F) (left : Int) (h0 : 0 ≤ left) (h1 : left ≤ 1048576) (hn : n ≤ 9223372036854775807) (hL : ∀ i, i < n → Ls i ≤ 9223372036854775807) (hm : nm ≤ 9223372036854775807) :
    Calls Try.prog 44 #[.agg #[.int .i64 c, .slice ao n cap, .slice mo nm mc], .int .i64 left] w fun e w' => ∃ r, e = .returned (.int .i64 r) ∧ ToldP n Ls nm left r ∧ Below w.heap.size w w' := by
  obtain ⟨X, hX⟩ : ∃ X, X = w.alloc (.cells #[.int .i64 c, .slice ao n cap, .slice mo nm mc] 62) := ⟨_, rfl⟩
  have BX : Hid (Blk X w.heap.size #[.int .i64 c, .slice ao n cap, .slice mo nm mc] 62 ∧ Below w.heap.size w X) := by rw [hX]; exact ⟨Blk.new rfl, (Below.refl _ _).alloc (Nat.le_refl _) _⟩
  have x1 := BX.out.1.cell (j := 1) (v := .slice ao n cap) rfl
  have x2 := BX.out.1.cell (j := 2) (v := .slice mo nm mc) rfl
  have HCl := szSS_any (h.later BX.out.2) left h0 h1 hn hL
  clear h
  go_enter Try.func44, Try.ntmps44
  go_wp2_with fail
  rw [← hX]
  clear hX
  go_upto_region 2 with (first | (go_at_call 80; refine HCl.mono ?_; rintro e w1 ⟨r, rfl, rfl, ht⟩))
  rcases ht with rfl | ⟨hr0, hr⟩
  · go_wp2
    go_ret
    exact ⟨-1, rfl, Or.inl rfl, BX.out.2⟩
  · have HR : Hid (r + n + Sm Ls n = left) := hr
    have hr1 : r ≤ 1048576 := by omega
    clear hr
    by_cases hq : r - (nm : Int) < 0
    · go_wp2_with (first | (go_at_call 81; refine (szS_any _ _ _ r _ hr0 hr1 hm).mono ?_; rintro e w2 ⟨rfl, rfl⟩; rw [if_pos hq]))
      go_ret
      exact ⟨-1, rfl, Or.inl rfl, BX.out.2⟩
    · obtain ⟨s, hs⟩ : ∃ s, s = r - (nm : Int) := ⟨_, rfl⟩
      have hs0 : 0 ≤ s := by omega
      have HS : Hid (s = r - (nm : Int)) := hs
      go_wp2_with (first | (go_at_call 81; refine (szS_any _ _ _ r _ hr0 hr1 hm).mono ?_; rintro e w2 ⟨rfl, rfl⟩; rw [if_neg hq, ← hs]; clear hs hq))
      go_ret
      refine ⟨s, rfl, Or.inr ⟨hs0, ?_⟩, BX.out.2⟩
      have h1 := HR.out
      have h2 := HS.out
      omega
/-- A path that owns its memory, from lo on, below hi. -/
structure OwPt (lo hi : Nat) (w : World) (g g2 n : Nat) (Ls : Nat → Nat) (F : Rm.Mx) (nm : Nat) (M : Nat → Int) : Prop where
  pts : Mat lo hi w (newLie g n Ls) n Ls F
  glo : lo ≤ g2
  ghi : g2 < hi
  mer : Seg w g2 2 0 nm (fun i => .int .i64 (M i))
theorem OwPt.rd {lo hi : Nat} {w : World} {g g2 n nm : Nat} {Ls : Nat → Nat} {F : Rm.Mx} {M : Nat → Int} (h : OwPt lo hi w g g2 n Ls F nm M) : RdP w (.slice (some ⟨g, 0, none⟩) n n) (.slice (some ⟨g2, 0, none⟩) nm nm) n Ls F nm M := ⟨h.pts.rd, h.mer.rd⟩
theorem OwPt.keep {lo hi : Nat} {w w' : World} {g g2 n nm : Nat} {Ls : Nat → Nat} {F : Rm.Mx} {M : Nat → Int} (h : OwPt lo hi w g g2 n Ls F nm M) (hk : Keep lo hi w w') : OwPt lo hi w' g g2 n Ls F nm M :=
  ⟨h.pts.keep hk, h.glo, h.ghi, h.mer.of_block (hk _ h.glo h.ghi)⟩
set_option maxRecDepth 20000 in
set_option maxHeartbeats 3200000 in
theorem toPath_any {w : World} {c : Int} {ao mo : Option Addr} {n nm cap mc : Nat} {Ls : Nat → Nat} {F : Rm.Mx} {M : Nat → Int} (h : RdP w (.slice ao n cap) (.slice mo nm mc) n Ls F nm M) (hf : PFew n Ls nm) :
    Calls Try.prog 46 #[.agg #[.int .i64 c, .slice ao n cap, .slice mo nm mc]] w fun e w' => ∃ g g2, e = .returned (.agg #[.int .i64 c, .slice (some ⟨g, 0, none⟩) n n, .slice (some ⟨g2, 0, none⟩) nm nm]) ∧ OwPt w.heap.size w'.heap.size w' g g2 n Ls F nm M ∧ Below w.heap.size w w' := by
  obtain ⟨X, hX⟩ : ∃ X, X = ((w.alloc (.cells #[.int .i64 c, .slice ao n cap, .slice mo nm mc] 62)).alloc (.cells #[.int .i64 0, .slice none 0 0, .slice none 0 0] 55)).alloc (.cells #[.int .i64 0, .slice none 0 0, .slice none 0 0] 55) := ⟨_, rfl⟩
  have BX : Hid (Blk X w.heap.size #[.int .i64 c, .slice ao n cap, .slice mo nm mc] 62 ∧ Blk X (w.heap.size + 1) #[.int .i64 0, .slice none 0 0, .slice none 0 0] 55 ∧ Blk X (w.heap.size + 2) #[.int .i64 0, .slice none 0 0, .slice none 0 0] 55 ∧ Below w.heap.size w X ∧ X.heap.size = w.heap.size + 3) := by
    rw [hX]
    refine ⟨?_, ?_, ?_, ((((Below.refl _ _).alloc (Nat.le_refl _) _).alloc (by simp) _).alloc (by simp; omega) _), by simp⟩
    · exact ((Blk.new rfl).alloc _).alloc _
    · have e : w.heap.size + 1 = (w.alloc (.cells #[.int .i64 c, .slice ao n cap, .slice mo nm mc] 62)).heap.size := by simp
      rw [e]
      exact (Blk.new rfl).alloc _
    · have e : w.heap.size + 2 = ((w.alloc (.cells #[.int .i64 c, .slice ao n cap, .slice mo nm mc] 62)).alloc (.cells #[.int .i64 0, .slice none 0 0, .slice none 0 0] 55)).heap.size := by simp
      rw [e]
      exact Blk.new rfl
  obtain ⟨q0, hq0⟩ : ∃ q, q = w.heap.size := ⟨_, rfl⟩
  obtain ⟨q1, hq1⟩ : ∃ q, q = w.heap.size + 1 := ⟨_, rfl⟩
  obtain ⟨q2, hq2⟩ : ∃ q, q = w.heap.size + 2 := ⟨_, rfl⟩
  rw [← hq1, ← hq2, ← hq0] at BX
  have HH : Hid (∀ W, Below q0 w W → RdP W (.slice ao n cap) (.slice mo nm mc) n Ls F nm M) := fun W hb => h.later (hq0 ▸ hb)
  have HF : Hid (PFew n Ls nm) := hf
  clear h hf
  go_enter Try.func46, Try.ntmps46
  go_upto_region 2 with fail
  rw [← hX, show w.heap.size + 1 + 1 = q2 by omega, ← hq1, ← hq0]
  clear hX
  have hl0 : q0 < q1 := by omega
  have hl1 : q1 < q2 := by omega
  have hl2 : q2 < q0 + 3 := by omega
  clear hq1 hq2
  have HW0 : Hid (q0 = w.heap.size) := hq0
  clear hq0
  have a0 := BX.out.1.cell (j := 0) (v := .int .i64 c) rfl
  have b0 := BX.out.2.2.1.cell (j := 0) (v := .int .i64 0) rfl
  have bf := BX.out.2.2.1.frozen
  go_upto_region 3 with fail
  clear a0 b0 bf
  obtain ⟨X1, hX1⟩ : ∃ Y, Y = X.setCell ⟨q2, 0, none⟩ (.int .i64 c) := ⟨_, rfl⟩
  have B1 : Hid (Blk X1 q0 #[.int .i64 c, .slice ao n cap, .slice mo nm mc] 62 ∧ Blk X1 q1 #[.int .i64 0, .slice none 0 0, .slice none 0 0] 55 ∧ Blk X1 q2 #[.int .i64 c, .slice none 0 0, .slice none 0 0] 55 ∧ Below q0 w X1 ∧ X1.heap.size = q0 + 3) := by
    rw [hX1]
    obtain ⟨h1, h2, h3, h4, h5⟩ := BX.out
    have key : ∀ k, k ≠ q2 → (X.setCell ⟨q2, 0, none⟩ (.int .i64 c)).heap[k]? = X.heap[k]? := fun k hk => Below.heap_setCell _ _ _ _ (by exact hk)
    exact ⟨(key _ (by omega)).trans h1, (key _ (by omega)).trans h2, h3.set 0 _ rfl, h4.setCell (by simp; omega) _, by simpa using h5⟩
  rw [← hX1]
  clear hX1 BX
  have hR1 := HH.out X1 B1.out.2.2.2.1
  have HC1 := toSS_any hR1.pts (by have := HF.out.all; omega) (fun i hi => by have := HF.out.row hi; omega)
  have a1 := B1.out.1.cell (j := 1) (v := .slice ao n cap) rfl
  have bX : ∀ W, Below X1.heap.size X1 W → W.cell? ⟨q2, 1, none⟩ = some (.slice none 0 0) ∧ (∀ j, W.frozen? ⟨q2, j, none⟩ = false) := fun W hb => ⟨(B1.out.2.2.1.old hb).cell rfl, (B1.out.2.2.1.old hb).frozen⟩
  clear hR1
  go_upto_region 4 with (first | (go_at_call 82; refine HC1.mono ?_; rintro e w2 ⟨rfl, hm, hb2⟩; obtain ⟨y1, yf⟩ := bX w2 hb2))
  clear a1 bX y1 yf HC1
  obtain ⟨g, hg⟩ : ∃ g, g = X1.heap.size := ⟨_, rfl⟩
  rw [← hg] at hm
  rw [← hg]
  have HG0 : Hid (g = q0 + 3) := by show g = q0 + 3; rw [hg]; exact B1.out.2.2.2.2
  have hg0 : q0 + 3 ≤ g := by rw [HG0.out]; exact Nat.le_refl _
  obtain ⟨X2, hX2⟩ : ∃ Y, Y = w2.setCell ⟨q2, 1, none⟩ (.slice (some ⟨g, 0, none⟩) n n) := ⟨_, rfl⟩
  have B2 : Hid (Blk X2 q0 #[.int .i64 c, .slice ao n cap, .slice mo nm mc] 62 ∧ Blk X2 q1 #[.int .i64 0, .slice none 0 0, .slice none 0 0] 55 ∧ Blk X2 q2 #[.int .i64 c, .slice (some ⟨g, 0, none⟩) n n, .slice none 0 0] 55 ∧ Below q0 w X2 ∧ g ≤ X2.heap.size ∧ Mat g X2.heap.size X2 (newLie g n Ls) n Ls F) := by
    rw [hX2]
    obtain ⟨h1, h2, h3, h4, h5⟩ := B1.out
    have key : ∀ k, k ≠ q2 → (w2.setCell ⟨q2, 1, none⟩ (.slice (some ⟨g, 0, none⟩) n n)).heap[k]? = w2.heap[k]? := fun k hk => Below.heap_setCell _ _ _ _ (by exact hk)
    have hs := hb2.size
    refine ⟨(key _ (by omega)).trans (h1.old hb2), (key _ (by omega)).trans (h2.old hb2), (h3.old hb2).set 1 _ rfl, (h4.trans (hb2.mono (by omega))).setCell (by simp; omega) _, by simp; omega, ?_⟩
    have : Mat g w2.heap.size (w2.setCell ⟨q2, 1, none⟩ (.slice (some ⟨g, 0, none⟩) n n)) (newLie g n Ls) n Ls F := hm.keep fun k hk _ => key k (by omega)
    simpa using this
  rw [← hX2]
  clear hX2 B1 hm hb2 hg
  have hR2 := HH.out X2 B2.out.2.2.2.1
  have HC2 := toS_any hR2.mer (by have := HF.out.all; omega)
  have a2 := B2.out.1.cell (j := 2) (v := .slice mo nm mc) rfl
  have bX : ∀ W, Below X2.heap.size X2 W → W.cell? ⟨q2, 2, none⟩ = some (.slice none 0 0) ∧ (∀ j, W.frozen? ⟨q2, j, none⟩ = false) := fun W hb => ⟨(B2.out.2.2.1.old hb).cell rfl, (B2.out.2.2.1.old hb).frozen⟩
  clear hR2
  go_upto_region 5 with (first | (go_at_call 34; refine HC2.mono ?_; rintro e w3 ⟨rfl, hm, hb3, hz⟩; obtain ⟨y1, yf⟩ := bX w3 hb3))
  clear a2 bX y1 yf HC2
  obtain ⟨g2, hg2⟩ : ∃ g, g = X2.heap.size := ⟨_, rfl⟩
  rw [← hg2] at hm
  rw [← hg2]
  obtain ⟨X3, hX3⟩ : ∃ Y, Y = w3.setCell ⟨q2, 2, none⟩ (.slice (some ⟨g2, 0, none⟩) nm nm) := ⟨_, rfl⟩
  have B3 : Hid (Blk X3 q1 #[.int .i64 0, .slice none 0 0, .slice none 0 0] 55 ∧ Blk X3 q2 #[.int .i64 c, .slice (some ⟨g, 0, none⟩) n n, .slice (some ⟨g2, 0, none⟩) nm nm] 55 ∧ Below q0 w X3 ∧ OwPt (q0 + 3) X3.heap.size X3 g g2 n Ls F nm M) := by
    rw [hX3]
    obtain ⟨h1, h2, h3, h4, h5, h6⟩ := B2.out
    have key : ∀ k, k ≠ q2 → (w3.setCell ⟨q2, 2, none⟩ (.slice (some ⟨g2, 0, none⟩) nm nm)).heap[k]? = w3.heap[k]? := fun k hk => Below.heap_setCell _ _ _ _ (by exact hk)
    have hs := hb3.size
    refine ⟨(key _ (by omega)).trans (h2.old hb3), (h3.old hb3).set 2 _ rfl, (h4.trans (hb3.mono (by omega))).setCell (by simp; omega) _, ?_, by omega, by simp; omega, hm.of_block (key _ (by omega))⟩
    have h7 : Mat (q0 + 3) X2.heap.size (w3.setCell ⟨q2, 2, none⟩ (.slice (some ⟨g2, 0, none⟩) nm nm)) (newLie g n Ls) n Ls F   := HG0.out ▸ h6.keep fun k hk hk2 => (key k (by omega)).trans (hb3.block k (by omega))
    exact h7.mono (by simp; omega)
  rw [← hX3]
  clear hX3 B2 hm hb3 hg2
  have z0 := B3.out.2.1.cell (j := 0) (v := .int .i64 c) rfl
  have z1 := B3.out.2.1.cell (j := 1) (v := .slice (some ⟨g, 0, none⟩) n n) rfl
  have z2 := B3.out.2.1.cell (j := 2) (v := .slice (some ⟨g2, 0, none⟩) nm nm) rfl
  have u0 := B3.out.1.cell (j := 0) (v := .int .i64 0) rfl
  have u1 := B3.out.1.cell (j := 1) (v := .slice none 0 0) rfl
  have u2 := B3.out.1.cell (j := 2) (v := .slice none 0 0) rfl
  have uf := B3.out.1.frozen
  obtain ⟨X4, hX4⟩ : ∃ Y, Y = ((X3.setCell ⟨q1, 0, none⟩ (.int .i64 c)).setCell ⟨q1, 1, none⟩ (.slice (some ⟨g, 0, none⟩) n n)).setCell ⟨q1, 2, none⟩ (.slice (some ⟨g2, 0, none⟩) nm nm) := ⟨_, rfl⟩
  have B4 : Hid (Blk X4 q1 #[.int .i64 c, .slice (some ⟨g, 0, none⟩) n n, .slice (some ⟨g2, 0, none⟩) nm nm] 55 ∧ Below q0 w X4 ∧ OwPt (q0 + 3) X4.heap.size X4 g g2 n Ls F nm M) := by
    rw [hX4]
    obtain ⟨h1, h2, h3, h4⟩ := B3.out
    refine ⟨((h1.set 0 _ rfl).set 1 _ rfl).set 2 _ rfl, ((h3.setCell (by simp; omega) _).setCell (by simp; omega) _).setCell (by simp; omega) _, ?_⟩
    have h7 := h4.keep (w' := ((X3.setCell ⟨q1, 0, none⟩ (.int .i64 c)).setCell ⟨q1, 1, none⟩ (.slice (some ⟨g, 0, none⟩) n n)).setCell ⟨q1, 2, none⟩ (.slice (some ⟨g2, 0, none⟩) nm nm)) fun k hk _ => by
      rw [Below.heap_setCell _ _ _ _ (by show k ≠ q1; omega), Below.heap_setCell _ _ _ _ (by show k ≠ q1; omega), Below.heap_setCell _ _ _ _ (by show k ≠ q1; omega)]
    simpa using h7
  go_wp2_with fail
  rw [← hX4]
  clear hX4
  have v0 := B4.out.1.cell (j := 0) (v := .int .i64 c) rfl
  have v1 := B4.out.1.cell (j := 1) (v := .slice (some ⟨g, 0, none⟩) n n) rfl
  have v2 := B4.out.1.cell (j := 2) (v := .slice (some ⟨g2, 0, none⟩) nm nm) rfl
  have hO := B4.out.2.2
  have hW := HW0.out
  refine bodyPost_ret (v := .agg #[.int .i64 c, .slice (some ⟨g, 0, none⟩) n n, .slice (some ⟨g2, 0, none⟩) nm nm]) ?_ rfl ⟨g, g2, rfl, ⟨⟨hO.pts.top, hO.pts.row, by have := hO.pts.blo; omega, hO.pts.bhi, fun i hi => by have := hO.pts.rlo i hi; omega, hO.pts.rhi, hO.pts.apart⟩, by have := hO.glo; omega, hO.ghi, hO.mer⟩, hW ▸ B4.out.2.1⟩
  simp [results, Try.results46, go_sem, v0, v1, v2]
set_option maxRecDepth 20000 in
set_option maxHeartbeats 3200000 in
theorem eqPath_any {w : World} {c : Int} {ao mo ao' mo' : Option Addr} {n nm cap mc cap' mc' : Nat} {Ls : Nat → Nat} {F : Rm.Mx} {M : Nat → Int} (h : RdP w (.slice ao n cap) (.slice mo nm mc) n Ls F nm M) (h' : RdP w (.slice ao' n cap') (.slice mo' nm mc') n Ls F nm M) (hn : n ≤ 1048576) (hL : ∀ i, i < n → Ls i ≤ 1048576) (hm : nm ≤ 1048576) :
    Calls Try.prog 39 #[.agg #[.int .i64 c, .slice ao n cap, .slice mo nm mc], .agg #[.int .i64 c, .slice ao' n cap', .slice mo' nm mc']] w fun e w' => e = .returned (.bool true) ∧ Below w.heap.size w w' := by
  obtain ⟨X, hX⟩ : ∃ X, X = (w.alloc (.cells #[.int .i64 c, .slice ao n cap, .slice mo nm mc] 55)).alloc (.cells #[.int .i64 c, .slice ao' n cap', .slice mo' nm mc'] 55) := ⟨_, rfl⟩
  have BX : Hid (Blk X w.heap.size #[.int .i64 c, .slice ao n cap, .slice mo nm mc] 55 ∧ Blk X (w.heap.size + 1) #[.int .i64 c, .slice ao' n cap', .slice mo' nm mc'] 55 ∧ Below w.heap.size w X) := by
    rw [hX]
    refine ⟨(Blk.new rfl).alloc _, ?_, ((Below.refl _ _).alloc (Nat.le_refl _) _).alloc (by simp) _⟩
    have e : w.heap.size + 1 = (w.alloc (.cells #[.int .i64 c, .slice ao n cap, .slice mo nm mc] 55)).heap.size := by simp
    rw [e]
    exact Blk.new rfl
  have HR : ∀ W, Below X.heap.size X W → Hid (RdP W (.slice ao n cap) (.slice mo nm mc) n Ls F nm M ∧ RdP W (.slice ao' n cap') (.slice mo' nm mc') n Ls F nm M) := fun W hb => ⟨(h.later BX.out.2.2).later hb, (h'.later BX.out.2.2).later hb⟩
  have HL : Hid (∀ i, i < n → Ls i ≤ 1048576) := hL
  have hX1 : w.heap.size < X.heap.size := BX.out.1.lt
  clear h h' hL
  have a0 := BX.out.1.cell (j := 0) (v := .int .i64 c) rfl
  have b0 := BX.out.2.1.cell (j := 0) (v := .int .i64 c) rfl
  have a1 := BX.out.1.cell (j := 1) (v := .slice ao n cap) rfl
  have b1 := BX.out.2.1.cell (j := 1) (v := .slice ao' n cap') rfl
  have K2 : ∀ W, Below X.heap.size X W → W.cell? ⟨w.heap.size, 2, none⟩ = some (.slice mo nm mc) ∧ W.cell? ⟨w.heap.size + 1, 2, none⟩ = some (.slice mo' nm mc') := fun W hb => ⟨(BX.out.1.old hb).cell rfl, (BX.out.2.1.old hb).cell rfl⟩
  have E1 : Calls Try.prog 77 #[.slice ao n cap, .slice ao' n cap'] X fun e w' => e = .returned (.bool true) ∧ Below X.heap.size X w' := (eqSS_any (HR _ (Below.refl _ _)).out.1.pts (HR _ (Below.refl _ _)).out.2.pts (by omega) (fun i hi => by have := HL.out i hi; omega)).mono fun e w' ⟨h1, q, h2⟩ => ⟨h1, by rw [h2]; exact below_drewN (Below.refl _ _) q⟩
  have E2 : ∀ W, Below X.heap.size X W → Calls Try.prog 36 #[.slice mo nm mc, .slice mo' nm mc'] W fun e w' => e = .returned (.bool true) ∧ Below W.heap.size W w' := fun W hb => (eqS_any (HR _ hb).out.1.mer (HR _ hb).out.2.mer (by omega)).mono fun e w' ⟨h1, q, h2⟩ => ⟨h1, by rw [h2]; exact below_drewN (Below.refl _ _) q⟩
  go_enter Try.func39, Try.ntmps39
  go_wp2_with fail
  rw [← hX]
  clear hX
  go_wp2_with (first | (go_at_call 77; refine E1.mono ?_; rintro e w1 ⟨rfl, hb1⟩; obtain ⟨a2, b2⟩ := K2 w1 hb1) | (go_at_call 36; refine (E2 w1 hb1).mono ?_; rintro e w2 ⟨rfl, hb2⟩))
  go_ret
  exact ⟨rfl, BX.out.2.2.trans ((hb1.trans (hb2.mono hb1.size)).mono (Nat.le_of_lt hX1))⟩
theorem cells62 : Try.prog.cellsOf 62 = 3 := by kernel_rfl
theorem cells53 : Try.prog.cellsOf 53 = 1 := by kernel_rfl
theorem array3 {cs : Array Value} (h : cs.size = 3) : ∃ c0 c1 c2, cs = #[c0, c1, c2] := by
  match cs, h with
  | ⟨[c0, c1, c2]⟩, _ => exact ⟨c0, c1, c2, rfl⟩
end Go.Proofs.Ytelejihgechmgaa
