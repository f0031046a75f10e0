/- What GuardDown answers: compared, marked, held. -/
import Derived.Test.YtinfbbbgfkaioaaGw
import Derived.Test.YtinfbbbgfkaioaaGv
import Derived.Test.YtinfbbbgfkaioaaLm
namespace Go.Proofs.Ytinfbbbgfkaioaa
open Go.RowKit
set_option linter.unusedVariables false
set_option linter.unusedSimpArgs false
theorem OwnG.rd {lo hi : Nat} {w : World} {c : Int} {lv gv : Value} {n m : Nat} {L : Nat → Li} {G : Nat → Gu} (h : OwnG lo hi w c lv gv n L m G) : OutG w c lv gv n L m G := by
  rcases h with h | ⟨h0, mid, g1, c1, g2, c2, _, _, rfl, rfl, h1, h2⟩
  · exact Or.inl h
  · exact Or.inr ⟨h0, h1.rd, h2.rd⟩
theorem OwnG.keep {lo hi : Nat} {w w' : World} {c : Int} {lv gv : Value} {n m : Nat} {L : Nat → Li} {G : Nat → Gu} (h : OwnG lo hi w c lv gv n L m G) (hk : Keep lo hi w w') : OwnG lo hi w' c lv gv n L m G := by
  rcases h with h | ⟨h0, mid, g1, c1, g2, c2, a, b, e1, e2, h1, h2⟩
  · exact Or.inl h
  · exact Or.inr ⟨h0, mid, g1, c1, g2, c2, a, b, e1, e2, h1.keep fun k q r => hk k q (by omega), h2.keep fun k q r => hk k (by omega) r⟩
set_option maxRecDepth 20000 in
set_option maxHeartbeats 3200000 in
theorem eqRg_any {w : World} {ao bo : Option Addr} {n cap cap' : Nat} {G : Nat → Gu} (h : Rg w (.slice ao n cap) n G) (h' : Rg w (.slice bo n cap') n G) (hn : n ≤ 1048576) :
    Calls Try.prog 20 #[.slice ao n cap, .slice bo n cap'] w fun e w' => e = .returned (.bool true) ∧ Below w.heap.size w w' := by
  have H : ∀ W, Below w.heap.size w W → Hid (Rg W (.slice ao n cap) n G ∧ Rg W (.slice bo n cap') n G) := fun W hb => ⟨h.later hb, h'.later hb⟩
  have hnI : (n : Int) ≤ 1048576 := by omega
  clear h h'
  go_enter Try.func20, Try.ntmps20
  go_wp2_with fail
  go_loopw [5] (fun i wr => ∃ k : Nat, k ≤ n ∧ i = .int .i64 k ∧ Hid (Below w.heap.size w wr)) (fun i _ => n - (intOf i).toNat)
  case atStart => exact ⟨0, Nat.zero_le _, rfl, Below.refl _ _⟩
  case round =>
    obtain ⟨k, hk, rfl, HB⟩ := hrel
    by_cases hkn : k < n
    · obtain ⟨b, off, rfl, hc⟩ := (H wr HB.out).out.1.at hkn
      obtain ⟨b', off', rfl, hc'⟩ := (H wr HB.out).out.2.at hkn
      obtain ⟨g, hg⟩ : ∃ g, g = G k := ⟨_, rfl⟩
      rw [← hg] at hc hc'
      have p0 : ∀ W, Below wr.heap.size wr W → W.cell? ⟨b, off + k * 2, none⟩ = some (.int .i64 g.wk) := fun W h => kold h (hc 0 (by omega))
      have q0 : ∀ W, Below wr.heap.size wr W → W.cell? ⟨b', off' + k * 2, none⟩ = some (.int .i64 g.wk) := fun W h => kold h (hc' 0 (by omega))
      have p1 : ∀ W, Below wr.heap.size wr W → W.cell? ⟨b, off + k * 2 + 1, none⟩ = some (.int .i64 g.sp) := fun W h => kold h (hc 1 (by omega))
      have q1 : ∀ W, Below wr.heap.size wr W → W.cell? ⟨b', off' + k * 2 + 1, none⟩ = some (.int .i64 g.sp) := fun W h => kold h (hc' 1 (by omega))
      have hkI : (k : Int) < n := by omega
      have hb0 : Below wr.heap.size wr wr := Below.refl _ _
      clear hc hc' H hg
      go_wp2_with fail
      go_region_held (fun W => Below wr.heap.size wr W) (first | assumption | exact Below.drew ‹_›)
        (first | (go_at_call 61; refine (eqGd_same g _).mono ?_; rintro e w1 ⟨rfl, hb1⟩; have hR1 := box_step ‹_› hb1 (Nat.le_refl _)))
      have HB2 : Hid (Below w.heap.size w w1) := HB.out.trans (hR1.mono HB.out.size)
      clear hR1 hb1 p0 q0 p1 q1
      go_wp2
      go_roundw
      case rel => exact ⟨k + 1, by omega, by simp, HB2.out⟩
      case measure => simp [intOf]; omega
    · obtain rfl : k = n := by omega
      clear H
      go_wp2
      go_ret
      exact ⟨rfl, HB.out⟩
set_option maxHeartbeats 800000 in
theorem markGd_none (ao : Option Addr) (cap : Nat) (k0 : Int) (w : World) : Calls Try.prog 23 #[.slice ao 0 cap, .int .i64 k0] w fun e w' => e = .returned (.int .i64 k0) ∧ w = w' := by
  go_enter Try.func23, Try.ntmps23
  go_wp2_with fail
  go_loopw [1, 5] (fun s i wr => s = .int .i64 k0 ∧ i = .int .i64 0 ∧ wr = w) (fun _ _ _ => 0)
  case atStart => exact ⟨rfl, rfl, rfl⟩
  case round =>
    obtain ⟨rfl, rfl, hwr⟩ := hrel
    obtain rfl := hwr.symm
    go_wp2
    go_ret
    exact ⟨rfl, rfl⟩
set_option maxHeartbeats 800000 in
theorem heldGd_none (ao : Option Addr) (cap : Nat) (k0 : Int) (w : World) : Calls Try.prog 65 #[.slice ao 0 cap, .int .i64 k0] w fun e w' => e = .returned (.int .i64 k0) ∧ w = w' := by
  go_enter Try.func65, Try.ntmps65
  go_wp2_with fail
  go_loopw [1, 5] (fun s i wr => s = .int .i64 k0 ∧ i = .int .i64 0 ∧ wr = w) (fun _ _ _ => 0)
  case atStart => exact ⟨rfl, rfl, rfl⟩
  case round =>
    obtain ⟨rfl, rfl, hwr⟩ := hrel
    obtain rfl := hwr.symm
    go_wp2
    go_ret
    exact ⟨rfl, rfl⟩
set_option maxHeartbeats 800000 in
theorem heldGd_some (g n cap : Nat) (k0 : Int) (w : World) (hn : n ≤ 1048576) (hk0 : 0 ≤ k0) (hk1 : k0 ≤ 100000000) (hs : SegV w g 77 n 2 (fun i j => gcell (mgd (mG k0 i)) j)) :
    Calls Try.prog 65 #[.slice (some ⟨g, 0, none⟩) n cap, .int .i64 k0] w fun e w' => e = .returned (.int .i64 (mG k0 n)) ∧ w = w' := by
  have HS : Hid (SegV w g 77 n 2 (fun i j => gcell (mgd (mG k0 i)) j)) := hs
  clear hs
  have hnI : (n : Int) ≤ 1048576 := by omega
  go_enter Try.func65, Try.ntmps65
  go_wp2_with fail
  go_loopw [1, 5] (fun s1 s5 wr => wr = w ∧ ∃ i : Nat, i ≤ n ∧ s1 = .int .i64 (mG k0 i) ∧ s5 = .int .i64 i) (fun _ s5 _ => n - (intOf s5).toNat)
  case atStart => exact ⟨rfl, 0, Nat.zero_le _, by simp [mG], rfl⟩
  case round =>
    obtain ⟨hwr, i, hi, rfl, rfl⟩ := hrel
    obtain rfl := hwr.symm
    by_cases hin : i < n
    · have a0 := HS.out.cell hin (show 0 < 2 by omega)
      have a1 := HS.out.cell hin (show 1 < 2 by omega)
      simp only [Nat.add_zero, gcell, mgd] at a0 a1
      have hiI : (i : Int) < n := by omega
      have hKn : mG k0 (i + 1) = mG k0 i + 1 + 1 := by unfold mG; omega
      have hK0 : 0 ≤ mG k0 i := by unfold mG; omega
      have hK1 : mG k0 i ≤ 500000000 := by unfold mG; omega
      obtain ⟨K, hK⟩ : ∃ K : Int, K = mG k0 i := ⟨_, rfl⟩
      have HK : Hid (mG k0 (i + 1) = K + 1 + 1) := by rw [hK]; exact hKn
      rw [← hK] at hK0 hK1 a0 a1 ⊢
      clear hKn hK
      go_wp2
      go_roundw
      case rel => exact ⟨by trivial, i + 1, by omega, by rw [HK.out], by simp⟩
      case measure => simp [intOf]; omega
    · obtain rfl : i = n := by omega
      go_wp2
      go_ret
      exact ⟨rfl, rfl⟩
set_option maxHeartbeats 800000 in
theorem eqOG_go {w : World} {c : Int} {lo lo' go go' : Option Addr} {n lc lc' m gc gc' : Nat} {L : Nat → Li} {G : Nat → Gu} (h1 : RdL w (.slice lo n lc) n L) (h2 : RdL w (.slice lo' n lc') n L) (h3 : Rg w (.slice go m gc) m G) (h4 : Rg w (.slice go' m gc') m G) (hf : LFew n L) (hm : m ≤ 1048576) :
    Calls Try.prog 17 #[.agg #[.int .i64 c, .slice lo n lc, .slice go m gc], .agg #[.int .i64 c, .slice lo' n lc', .slice go' m gc']] w fun e w' => e = .returned (.bool true) ∧ Below w.heap.size w w' := by
  obtain ⟨X, hX⟩ : ∃ X, X = (w.alloc (.cells #[.int .i64 c, .slice lo n lc, .slice go m gc] 33)).alloc (.cells #[.int .i64 c, .slice lo' n lc', .slice go' m gc'] 33) := ⟨_, rfl⟩
  have BX : Hid (Blk X w.heap.size #[.int .i64 c, .slice lo n lc, .slice go m gc] 33 ∧ Blk X (w.heap.size + 1) #[.int .i64 c, .slice lo' n lc', .slice go' m gc'] 33 ∧ Below w.heap.size w X) := by rw [hX]; exact ⟨(Blk.new rfl).alloc _, Blk.new (by simp), ((Below.refl _ _).alloc (Nat.le_refl _) _).alloc (by simp) _⟩
  have hXz : w.heap.size ≤ X.heap.size := Nat.le_of_lt BX.out.1.lt
  have H : ∀ W, Below X.heap.size X W → Hid (RdL W (.slice lo n lc) n L ∧ RdL W (.slice lo' n lc') n L ∧ Rg W (.slice go m gc) m G ∧ Rg W (.slice go' m gc') m G ∧ LFew n L) := fun W hb => ⟨h1.later (BX.out.2.2.trans (hb.mono hXz)), h2.later (BX.out.2.2.trans (hb.mono hXz)), RdV.later h3 (BX.out.2.2.trans (hb.mono hXz)), RdV.later h4 (BX.out.2.2.trans (hb.mono hXz)), hf⟩
  clear h1 h2 h3 h4 hf
  have CX : ∀ W, Below X.heap.size X W → W.cell? ⟨w.heap.size, 0, none⟩ = some (.int .i64 c) ∧ W.cell? ⟨w.heap.size, 1, none⟩ = some (.slice lo n lc) ∧ W.cell? ⟨w.heap.size, 2, none⟩ = some (.slice go m gc) ∧ W.cell? ⟨w.heap.size + 1, 0, none⟩ = some (.int .i64 c) ∧ W.cell? ⟨w.heap.size + 1, 1, none⟩ = some (.slice lo' n lc') ∧ W.cell? ⟨w.heap.size + 1, 2, none⟩ = some (.slice go' m gc') :=
    fun W h => ⟨(BX.out.1.old h).cell rfl, (BX.out.1.old h).cell rfl, (BX.out.1.old h).cell rfl, (BX.out.2.1.old h).cell rfl, (BX.out.2.1.old h).cell rfl, (BX.out.2.1.old h).cell rfl⟩
  obtain ⟨x0, x1, x2, y0, y1, y2⟩ := CX X (Below.refl _ _)
  go_enter Try.func17, Try.ntmps17
  go_upto_region 1 with fail
  rw [← hX]
  clear hX
  go_wp2_with fail
  refine (eqLits_any (H _ (Below.refl _ _)).out.1 (H _ (Below.refl _ _)).out.2.1 (H _ (Below.refl _ _)).out.2.2.2.2).mono ?_
  rintro e w1 ⟨rfl, hb1⟩
  clear x0 x1 x2 y0 y1 y2
  obtain ⟨x0, x1, x2, y0, y1, y2⟩ := CX w1 hb1
  have HB1 : Hid (Below X.heap.size X w1) := hb1
  clear hb1
  go_wp2_with fail
  refine (eqRg_any (H _ HB1.out).out.2.2.1 (H _ HB1.out).out.2.2.2.1 hm).mono ?_
  rintro e w2 ⟨rfl, hb2⟩
  have HB2 : Hid (Below w.heap.size w w2) := BX.out.2.2.trans ((HB1.out.trans (hb2.mono HB1.out.size)).mono hXz)
  clear x0 x1 x2 y0 y1 y2 hb2
  go_wp2
  go_ret
  exact ⟨rfl, HB2.out⟩
theorem eqOG_any {w : World} {c : Int} {lv gv lv' gv' : Value} {n m : Nat} {L : Nat → Li} {G : Nat → Gu} (h : OutG w c lv gv n L m G) (h' : OutG w c lv' gv' n L m G) (hn : c = 0 → LFew n L ∧ m ≤ 1048576) :
    Calls Try.prog 17 #[.agg #[.int .i64 c, lv, gv], .agg #[.int .i64 c, lv', gv']] w fun e w' => e = .returned (.bool true) ∧ Below w.heap.size w w' := by
  rcases h with ⟨h0, rfl, rfl⟩ | ⟨h0, h1, h2⟩
  · rcases h' with ⟨_, rfl, rfl⟩ | ⟨h2, _⟩
    · exact eqOG_go (L := L) (G := G) (rdl_none w none 0 L) (rdl_none w none 0 L) (Or.inl ⟨_, _, rfl, rfl⟩) (Or.inl ⟨_, _, rfl, rfl⟩) (few_none L) (by omega)
    · exact absurd h2 h0
  · rcases h' with ⟨h3, _⟩ | ⟨_, h3, h4⟩
    · exact absurd h0 h3
    · obtain ⟨lo, lc, e1⟩ := h1.shape
      obtain ⟨lo', lc', e2⟩ := h3.shape
      obtain ⟨go, gc, e3⟩ := rg_shape h2
      obtain ⟨go', gc', e4⟩ := rg_shape h4
      subst e1
      subst e2
      subst e3
      subst e4
      exact eqOG_go h1 h3 h2 h4 (hn h0).1 (hn h0).2
/-- What GuardDown answered, marked from 1 on; r: the next mark. -/
def MkdG (lo hi : Nat) (w : World) (c : Int) (lv gv : Value) (n : Nat) (L : Nat → Li) (m : Nat) (r : Int) : Prop :=
  (c ≠ 0 ∧ lv = .slice none 0 0 ∧ gv = .slice none 0 0 ∧ r = 1) ∨ (c = 0 ∧ r = mG (mLs 1 L n) m ∧ ∃ mid g1 c1 g2 c2, lo ≤ mid ∧ mid ≤ hi ∧ lv = .slice (some ⟨g1, 0, none⟩) n c1 ∧ gv = .slice (some ⟨g2, 0, none⟩) m c2 ∧ OwLs lo mid w g1 n (mkL 1 L) ∧ OwG mid hi w g2 m (fun i => mgd (mG (mLs 1 L n) i)))
theorem MkdG.keep {lo hi : Nat} {w w' : World} {c : Int} {lv gv : Value} {n m : Nat} {L : Nat → Li} {r : Int} (h : MkdG lo hi w c lv gv n L m r) (hk : Keep lo hi w w') : MkdG lo hi w' c lv gv n L m r := by
  rcases h with h | ⟨h0, hr, mid, g1, c1, g2, c2, a, b, e1, e2, h1, h2⟩
  · exact Or.inl h
  · exact Or.inr ⟨h0, hr, mid, g1, c1, g2, c2, a, b, e1, e2, h1.keep fun k q r => hk k q (by omega), h2.keep fun k q r => hk k (by omega) r⟩
theorem MkdG.pos {lo hi : Nat} {w : World} {c : Int} {lv gv : Value} {n m : Nat} {L : Nat → Li} {r : Int} (h : MkdG lo hi w c lv gv n L m r) : 0 ≤ r := by
  rcases h with ⟨_, _, _, h⟩ | ⟨_, h, _⟩
  · omega
  · have := mLs_lo 1 L n
    have : mG (mLs 1 L n) m = mLs 1 L n + 2 * (m : Int) := rfl
    omega
set_option maxHeartbeats 1600000 in
theorem markOG_any {lo hi : Nat} {w : World} {c : Int} {so lo' : Option Addr} {k1 d1 k2 d2 : Nat} {n m : Nat} {L : Nat → Li} {G : Nat → Gu} (h : OwnG lo hi w c (.slice so k1 d1) (.slice lo' k2 d2) n L m G) (hn : c = 0 → LFew n L ∧ m ≤ 1048576) (hlo : lo ≤ hi) (hhi : hi ≤ w.heap.size) :
    Calls Try.prog 24 #[.agg #[.int .i64 c, .slice so k1 d1, .slice lo' k2 d2], .int .i64 1] w fun e w' => ∃ r, e = .returned (.int .i64 r) ∧ MkdG lo hi w' c (.slice so k1 d1) (.slice lo' k2 d2) n L m r ∧ Within lo hi w w' := by
  obtain ⟨X, hX⟩ : ∃ X, X = w.alloc (.cells #[.int .i64 c, .slice so k1 d1, .slice lo' k2 d2] 33) := ⟨_, rfl⟩
  have BX : Hid (Blk X w.heap.size #[.int .i64 c, .slice so k1 d1, .slice lo' k2 d2] 33 ∧ Below w.heap.size w X ∧ w.heap.size < X.heap.size ∧ Within lo hi w X) := by rw [hX]; exact ⟨Blk.new rfl, (Below.refl _ _).alloc (Nat.le_refl _) _, by simp, (Within.refl _ _ _).alloc (by omega) _⟩
  have x1 := BX.out.1.cell (j := 1) (v := .slice so k1 d1) rfl
  have x2 := BX.out.1.cell (j := 2) (v := .slice lo' k2 d2) rfl
  have hz := BX.out.2.2.1
  rcases h with ⟨h0, e1, e2⟩ | ⟨h0, mid, g1, c1, g2, c2, hm1, hm2, e1, e2, h1, h2⟩
  · have H0 : Hid (c ≠ 0 ∧ Value.slice so k1 d1 = .slice none 0 0 ∧ Value.slice lo' k2 d2 = .slice none 0 0) := ⟨h0, e1, e2⟩
    have q1 : Calls Try.prog 22 #[.slice so k1 d1, .int .i64 1] X fun e w' => e = .returned (.int .i64 1) ∧ X = w' := by rw [e1]; exact markLits_none _ _ _ _
    have q2 : Calls Try.prog 23 #[.slice lo' k2 d2, .int .i64 1] X fun e w' => e = .returned (.int .i64 1) ∧ X = w' := by rw [e2]; exact markGd_none _ _ _ _
    clear h0 hn e1 e2
    go_enter Try.func24, Try.ntmps24
    go_upto_region 1 with fail
    rw [← hX]
    clear hX
    go_wp2_with fail
    refine q1.mono ?_
    rintro e w1 ⟨rfl, rfl⟩
    go_wp2_with fail
    refine q2.mono ?_
    rintro e w1 ⟨rfl, rfl⟩
    clear x1 x2 q1 q2
    go_wp2
    go_ret
    exact ⟨1, rfl, Or.inl ⟨H0.out.1, H0.out.2.1, H0.out.2.2, rfl⟩, BX.out.2.2.2⟩
  · have hX1 : Hid (OwLs lo mid X g1 n L ∧ OwG mid hi X g2 m G) := ⟨h1.keep (Keep.of BX.out.2.1 (by omega)), h2.keep (Keep.of BX.out.2.1 (by omega))⟩
    have HN : Hid (LFew n L ∧ m ≤ 1048576 ∧ c = 0 ∧ lo ≤ mid ∧ mid ≤ hi) := ⟨(hn h0).1, (hn h0).2, h0, hm1, hm2⟩
    clear h1 h2 h0 hn
    obtain ⟨a1, a2, a3⟩ : some ⟨g1, 0, none⟩ = so ∧ n = k1 ∧ c1 = d1 := by simp at e1; exact ⟨e1.1.symm, e1.2.1.symm, e1.2.2.symm⟩
    obtain ⟨b1, b2, b3⟩ : some ⟨g2, 0, none⟩ = lo' ∧ m = k2 ∧ c2 = d2 := by simp at e2; exact ⟨e2.1.symm, e2.2.1.symm, e2.2.2.symm⟩
    clear e1 e2
    subst a1 a2 a3 b1 b2 b3
    go_enter Try.func24, Try.ntmps24
    go_upto_region 1 with fail
    rw [← hX]
    clear hX
    go_wp2_with fail
    refine (markLits_any 1 hX1.out.1 (by omega) (by omega) HN.out.1).mono ?_
    rintro e w1 ⟨rfl, q1, q2⟩
    have H1 : Hid (OwLs lo mid w1 g1 n (mkL 1 L) ∧ Within lo mid X w1 ∧ OwG mid hi w1 g2 m G) := ⟨q1, q2, hX1.out.2.keep (keep_apart q2 (Or.inr (Nat.le_refl _)) (by omega))⟩
    have y2 : w1.cell? ⟨w.heap.size, 2, none⟩ = some (.slice (some ⟨g2, 0, none⟩) m c2) := (BX.out.1.within q2 (Or.inr (by omega))).cell (j := 2) rfl
    obtain ⟨K, hK⟩ : ∃ K, K = mLs 1 L n := ⟨_, rfl⟩
    have k0 : 0 ≤ K := by rw [hK]; have := mLs_lo 1 L n; omega
    have k9 : K ≤ 100000000 := by rw [hK]; have := mLs_hi 1 HN.out.1; omega
    have HK : Hid (K = mLs 1 L n) := hK
    rw [← hK]
    clear q1 q2 x1 x2 hK
    go_wp2_with fail
    refine (markG_any K H1.out.2.2 k0 k9 HN.out.2.1).mono ?_
    rintro e w2 ⟨rfl, hm2, hw2⟩
    have H2 : Hid (OwG mid hi w2 g2 m (fun i => mgd (mG K i)) ∧ Within mid hi w1 w2) := ⟨hm2, hw2⟩
    clear hm2 hw2 y2
    go_wp2
    go_ret
    refine ⟨_, rfl, Or.inr ⟨HN.out.2.2.1, by rw [HK.out], mid, g1, _, g2, _, HN.out.2.2.2.1, HN.out.2.2.2.2, rfl, rfl, ?_, by rw [← HK.out]; exact H2.out.1⟩, ?_⟩
    · have z1 := H1.out.2.1.below.size
      have z2 := BX.out.2.2.1
      exact H1.out.1.keep (keep_apart H2.out.2 (Or.inl (Nat.le_refl _)) (by have := HN.out.2.2.2; omega))
    · have hl := HN.out.2.2.2
      exact BX.out.2.2.2.trans ((H1.out.2.1.mono (Nat.le_refl _) hl.2).trans (H2.out.2.mono hl.1 (Nat.le_refl _)))
set_option maxHeartbeats 1600000 in
theorem heldOG_any {lo hi : Nat} {w : World} {c : Int} {so lo' : Option Addr} {k1 d1 k2 d2 : Nat} {n m : Nat} {L : Nat → Li} {r : Int} (h : MkdG lo hi w c (.slice so k1 d1) (.slice lo' k2 d2) n L m r) (hn : c = 0 → LFew n L ∧ m ≤ 1048576) (hhi : hi ≤ w.heap.size) :
    Calls Try.prog 25 #[.agg #[.int .i64 c, .slice so k1 d1, .slice lo' k2 d2], .int .i64 1] w fun e w' => e = .returned (.int .i64 r) ∧ Below w.heap.size w w' := by
  obtain ⟨X, hX⟩ : ∃ X, X = w.alloc (.cells #[.int .i64 c, .slice so k1 d1, .slice lo' k2 d2] 33) := ⟨_, rfl⟩
  have BX : Hid (Blk X w.heap.size #[.int .i64 c, .slice so k1 d1, .slice lo' k2 d2] 33 ∧ Below w.heap.size w X) := by rw [hX]; exact ⟨Blk.new rfl, (Below.refl _ _).alloc (Nat.le_refl _) _⟩
  have x1 := BX.out.1.cell (j := 1) (v := .slice so k1 d1) rfl
  have x2 := BX.out.1.cell (j := 2) (v := .slice lo' k2 d2) rfl
  rcases h with ⟨h0, e1, e2, rfl⟩ | ⟨h0, hr, mid, g1, c1, g2, c2, hm1, hm2, e1, e2, h1, h2⟩
  · have q1 : Calls Try.prog 64 #[.slice so k1 d1, .int .i64 1] X fun e w' => e = .returned (.int .i64 1) ∧ X = w' := by rw [e1]; exact heldLits_none _ _ _ _
    have q2 : Calls Try.prog 65 #[.slice lo' k2 d2, .int .i64 1] X fun e w' => e = .returned (.int .i64 1) ∧ X = w' := by rw [e2]; exact heldGd_none _ _ _ _
    clear h0 hn e1 e2
    go_enter Try.func25, Try.ntmps25
    go_upto_region 1 with fail
    rw [← hX]
    clear hX
    go_wp2_with fail
    refine q1.mono ?_
    rintro e w1 ⟨rfl, rfl⟩
    go_wp2_with fail
    refine q2.mono ?_
    rintro e w1 ⟨rfl, rfl⟩
    clear x1 x2 q1 q2
    go_wp2
    go_ret
    exact ⟨rfl, BX.out.2⟩
  · have hX1 : Hid (OwLs lo mid X g1 n (mkL 1 L) ∧ OwG mid hi X g2 m (fun i => mgd (mG (mLs 1 L n) i))) := ⟨h1.keep (Keep.of BX.out.2 (by omega)), h2.keep (Keep.of BX.out.2 (by omega))⟩
    have HN : Hid (LFew n L ∧ m ≤ 1048576 ∧ r = mG (mLs 1 L n) m) := ⟨(hn h0).1, (hn h0).2, hr⟩
    have hr0 : 0 ≤ r := by
      rw [hr]
      have := mLs_lo 1 L n
      have : mG (mLs 1 L n) m = mLs 1 L n + 2 * (m : Int) := rfl
      omega
    clear h1 h2 h0 hn hr
    obtain ⟨a1, a2, a3⟩ : some ⟨g1, 0, none⟩ = so ∧ n = k1 ∧ c1 = d1 := by simp at e1; exact ⟨e1.1.symm, e1.2.1.symm, e1.2.2.symm⟩
    obtain ⟨b1, b2, b3⟩ : some ⟨g2, 0, none⟩ = lo' ∧ m = k2 ∧ c2 = d2 := by simp at e2; exact ⟨e2.1.symm, e2.2.1.symm, e2.2.2.symm⟩
    clear e1 e2
    subst a1 a2 a3 b1 b2 b3
    obtain ⟨K, hK⟩ : ∃ K, K = mLs 1 L n := ⟨_, rfl⟩
    have k0 : 0 ≤ K := by rw [hK]; have := mLs_lo 1 L n; omega
    have k9 : K ≤ 100000000 := by rw [hK]; have := mLs_hi 1 HN.out.1; omega
    have HK : Hid (K = mLs 1 L n) := hK
    clear hK
    go_enter Try.func25, Try.ntmps25
    go_upto_region 1 with fail
    rw [← hX]
    clear hX
    go_wp2_with fail
    have q1 := heldLits_any (cap := c1) 1 hX1.out.1 (by omega) (by omega) HN.out.1
    rw [← HK.out] at q1
    refine q1.mono ?_
    rintro e w1 ⟨rfl, rfl⟩
    go_wp2_with fail
    have q2 := heldGd_some g2 m c2 K X HN.out.2.1 k0 k9 (by rw [HK.out]; exact hX1.out.2.seg)
    have hrK : r = mG K m := by rw [HK.out]; exact HN.out.2.2
    rw [← hrK] at q2
    clear hrK
    refine q2.mono ?_
    rintro e w1 ⟨rfl, rfl⟩
    clear x1 x2 q1 q2
    go_wp2
    go_ret
    exact ⟨rfl, BX.out.2⟩
theorem gd_few {nodes slots work : Int} {nf : Nat} {F : Nat → Fb} {n : Nat} {L : Nat → Li} {ng : Nat} {G : Nat → Gu} {c : Int} (hc : c = gdcode nodes slots nf F n L ng G work) (hz : c = 0) (hg : ng ≤ 1048576) : LFew (n - 2) (gdL L n G ng work) ∧ ng - 1 ≤ 1048576 := by
  obtain ⟨h1, h2⟩ := gdc_zero (by rw [← hc]; exact hz)
  obtain ⟨N, t, M, a, b, e1, ht, e2, e3, ha, hb, hab, e4, e5, _⟩ := gd_found h1 h2
  obtain ⟨n40, hok⟩ := gd_good (gf_zero h1).1
  refine ⟨?_, by omega⟩
  have := two_few (a := a) (b := b) hok e3 n40
  have e : gdL L n G ng work = (fun i => L (two a b i)) := by
    have eT : gdT G work ng = t := by unfold gdT; rw [e2]; simp
    refine funext fun i => ?_
    unfold gdL; rw [eT, e4, e5]; simp
  rw [e, show n - 2 = M by omega]
  exact this
end Go.Proofs.Ytinfbbbgfkaioaa
