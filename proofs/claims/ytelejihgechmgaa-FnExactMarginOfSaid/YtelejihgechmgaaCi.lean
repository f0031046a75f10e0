/- The program's ChainLevels: contract. -/
import Derived.Test.YtelejihgechmgaaLo
import Derived.Test.YtelejihgechmgaaSf
namespace Go.Proofs.Ytelejihgechmgaa
open Go.RowKit
set_option linter.unusedVariables false
set_option linter.unusedSimpArgs false
set_option maxRecDepth 20000 in
set_option maxHeartbeats 12800000 in
theorem iChain_any {w : World} {ao : Option Addr} {n cap : Nat} {S : Nat → Mt.Sp} {start c l t : Int} (hc : c = Mt.ccode S n start) (hl : l = Mt.cl S n start) (ht : t = Mt.ct S n start) (h : RdV w (.slice ao n cap) n 4 (fun i j => scell (S i) j)) (hn : n ≤ 1048576) :
    Calls Try.prog 16 #[.slice ao n cap, .int .i64 start] w fun e w' => ∃ v, e = .returned (.agg #[.int .i64 c, v, .int .i64 l, .int .i64 t]) ∧ OwnI w.heap.size w'.heap.size w' c v (Mt.lvs S start n) ∧ Below w.heap.size w w' := by
  have H : ∀ W, Below w.heap.size w W → Hid (RdV W (.slice ao n cap) n 4 (fun i j => scell (S i) j) ∧ ∀ b off, ao = some ⟨b, off, none⟩ → 0 < n → b < w.heap.size) := fun W hb => ⟨h.later hb, fun b off e hp => by
    obtain ⟨b', off', e', hc'⟩ := h.at hp
    have := World.block_lt_of_cell? _ _ (hc' 0 (by omega))
    rw [e] at e'
    simp only [Option.some.injEq, Addr.mk.injEq] at e'
    rw [e'.1]
    exact this⟩
  clear h
  have hnI : (n : Int) ≤ 1048576 := by omega
  have HC : Hid (c = Mt.ccode S n start ∧ l = Mt.cl S n start ∧ t = Mt.ct S n start) := ⟨hc, hl, ht⟩
  clear hc hl ht
  have bad : ∀ q : Int, q ≠ 0 → Mt.ccode S n start = q → c = q ∧ l = 0 ∧ t = 0 := fun q hq e => by
    obtain ⟨h1, h2, h3⟩ := HC.out
    refine ⟨h1.trans e, h2.trans ?_, h3.trans ?_⟩
    · unfold Mt.cl; rw [if_neg (by omega)]
    · unfold Mt.ct; rw [if_neg (by omega)]
  have fine : Mt.ccode S n start = 0 → c = 0 ∧ l = Mt.ls S start n ∧ t = Mt.tl S n := fun e => by
    obtain ⟨h1, h2, h3⟩ := HC.out
    refine ⟨h1.trans e, h2.trans ?_, h3.trans ?_⟩
    · unfold Mt.cl; rw [if_pos e]
    · unfold Mt.ct; rw [if_pos e]
  replace bad : Hid _ := bad
  replace fine : Hid _ := fine
  obtain ⟨X, hX⟩ : ∃ X, X = w.alloc (.cells #[.int .i64 0, .slice none 0 0, .int .i64 0, .int .i64 0] 26) := ⟨_, rfl⟩
  have BX : Hid (Blk X w.heap.size #[.int .i64 0, .slice none 0 0, .int .i64 0, .int .i64 0] 26 ∧ Below w.heap.size w X) := by rw [hX]; exact ⟨Blk.new rfl, (Below.refl _ _).alloc (Nat.le_refl _) _⟩
  have hXz : w.heap.size ≤ X.heap.size := Nat.le_of_lt BX.out.1.lt
  have hX1 : w.heap.size < X.heap.size := BX.out.1.lt
  have HX0 : Hid (Below X.heap.size X X) := Below.refl _ _
  by_cases hz : Mt.ccode S n start = 0
  case neg =>
    obtain ⟨q, hq0⟩ : ∃ q, q = Mt.ccode S n start := ⟨_, rfl⟩
    have hq : q ≠ 0 := by rw [hq0]; exact hz
    obtain ⟨rfl, rfl, rfl⟩ := bad.out q hq hq0.symm
    have HF : ∀ W, Below w.heap.size w W → Calls Try.prog 58 #[.slice ao n cap, .int .i64 start] W fun e w' => e = .returned (.int .i64 c) ∧ Below W.heap.size W w' := fun W hb => by rw [hq0]; exact iChainF_any start (H W hb).out.1 hn
    have hqb : (c != 0) = true := by simpa using hq
    have HFX := HF X BX.out.2
    clear H HF hq0 hz bad fine HC
    go_enter Try.func16, Try.ntmps16
    go_wp2_with fail
    rw [← hX]
    clear hX
    go_upto_region 3 with (first | (go_at_call 58; refine HFX.mono ?_; rintro e w1 ⟨rfl, hb1⟩))
    have r0 := (BX.out.1.old hb1).cell (j := 0) (v := .int .i64 0) rfl
    have r1 := (BX.out.1.old hb1).cell (j := 1) (v := .slice none 0 0) rfl
    have r2 := (BX.out.1.old hb1).cell (j := 2) (v := .int .i64 0) rfl
    have r3 := (BX.out.1.old hb1).cell (j := 3) (v := .int .i64 0) rfl
    have rf := (BX.out.1.old hb1).frozen
    have HBR : Hid (Blk (((((w1).setCell ⟨w.heap.size, 0, none⟩ (.int .i64 c)).setCell ⟨w.heap.size, 1, none⟩ (.slice none 0 0)).setCell ⟨w.heap.size, 2, none⟩ (.int .i64 0)).setCell ⟨w.heap.size, 3, none⟩ (.int .i64 0)) w.heap.size #[.int .i64 c, .slice none 0 0, .int .i64 0, .int .i64 0] 26 ∧ Below w.heap.size w (((((w1).setCell ⟨w.heap.size, 0, none⟩ (.int .i64 c)).setCell ⟨w.heap.size, 1, none⟩ (.slice none 0 0)).setCell ⟨w.heap.size, 2, none⟩ (.int .i64 0)).setCell ⟨w.heap.size, 3, none⟩ (.int .i64 0))) := ⟨(((((BX.out.1.old hb1).set 0 _ rfl).set 1 _ rfl).set 2 _ rfl).set 3 _ rfl), (((((BX.out.2.trans (hb1.mono hXz)).setCell (by simp) _).setCell (by simp) _).setCell (by simp) _).setCell (by simp) _)⟩
    go_wp2_with fail
    have s0 := HBR.out.1.cell (j := 0) (v := .int .i64 c) rfl
    have s1 := HBR.out.1.cell (j := 1) (v := .slice none 0 0) rfl
    have s2 := HBR.out.1.cell (j := 2) (v := .int .i64 0) rfl
    have s3 := HBR.out.1.cell (j := 3) (v := .int .i64 0) rfl
    refine bodyPost_ret (v := .agg #[.int .i64 c, .slice none 0 0, .int .i64 0, .int .i64 0]) ?_ rfl ⟨_, rfl, Or.inl ⟨hq, rfl⟩, HBR.out.2⟩
    simp [results, Try.results16, go_sem, s0, s1, s2, s3]
  case pos =>
    obtain ⟨rfl, rfl, rfl⟩ := fine.out hz
    have G : Hid (Mt.Good S n start) := Mt.good hz
    have HF : ∀ W, Below w.heap.size w W → Calls Try.prog 58 #[.slice ao n cap, .int .i64 start] W fun e w' => e = .returned (.int .i64 0) ∧ Below W.heap.size W w' := fun W hb => by rw [← hz]; exact iChainF_any start (H W hb).out.1 hn
    have HFX := HF X BX.out.2
    have hsI : (n : Int) ≤ 100 := by have := G.out.n100; omega
    clear hz bad fine HF
    go_enter Try.func16, Try.ntmps16
    go_wp2_with fail
    rw [← hX]
    clear hX
    go_upto_region 4 with (first | (go_at_call 58; refine HFX.mono ?_; rintro e w1 ⟨rfl, hb1⟩))
    clear HFX
    have HB : Hid (Below X.heap.size X w1) := hb1
    clear hb1
    obtain ⟨Y, hY⟩ : ∃ Y, Y = (w1.alloc (.cells #[.int .i64 start] 2)).alloc (.cells #[.int .i64 0, .slice (some ⟨w1.heap.size, 0, none⟩) 1 1, .int .i64 start, .int .i64 0] 26) := ⟨_, rfl⟩
    obtain ⟨rb, hrb⟩ : ∃ r, r = w1.heap.size + 1 := ⟨_, rfl⟩
    have BY : Hid (Blk Y rb #[.int .i64 0, .slice (some ⟨w1.heap.size, 0, none⟩) 1 1, .int .i64 start, .int .i64 0] 26 ∧ Ol Y w1.heap.size (.slice (some ⟨w1.heap.size, 0, none⟩) 1 1) [start] ∧ Below w1.heap.size w1 Y) := by
      have e : rb = (w1.alloc (.cells #[.int .i64 start] 2)).heap.size := by simp [hrb]
      rw [hY, e]
      refine ⟨Blk.new rfl, (Ol.one w1 start).later ((Below.refl _ _).alloc (Nat.le_refl _) _), ((Below.refl _ _).alloc (Nat.le_refl _) _).alloc (by simp) _⟩
    have hrw : w1.heap.size ≤ rb := by omega
    have hXw : X.heap.size ≤ w1.heap.size := HB.out.size
    have hnr : w.heap.size ≠ rb := by omega
    go_upto_region 7 with fail
    first | (rw [← hrb, ← hY]) | (rw [← hY])
    clear hY hrb
    have HY : Hid (Blk Y rb #[.int .i64 0, .slice (some ⟨w1.heap.size, 0, none⟩) 1 1, .int .i64 start, .int .i64 0] 26 ∧ Ol Y w1.heap.size (.slice (some ⟨w1.heap.size, 0, none⟩) 1 1) (Mt.lvs S start 0) ∧ Below w1.heap.size w1 Y) := BY.out
    clear BY
    obtain ⟨lo, hlo⟩ : ∃ lo, lo = w1.heap.size := ⟨_, rfl⟩
    have HLO : Hid (lo = w1.heap.size) := hlo
    rw [← hlo] at HY hrw
    have hXlo : X.heap.size ≤ lo := by omega
    clear hlo
    go_loopw [7, 25] (fun u i wr => ∃ (k : Nat) (v : Value), k ≤ n ∧ i = .int .i64 k ∧ u = .int .i64 (Mt.lv S start k) ∧ Hid (Blk wr rb #[.int .i64 0, v, .int .i64 (Mt.ls S start k), .int .i64 (Mt.tl S k)] 26 ∧ Ol wr lo v (Mt.lvs S start k) ∧ Below lo w1 wr)) (fun _ i _ => n - (intOf i).toNat)
    case atStart => exact ⟨0, _, Nat.zero_le _, rfl, rfl, HY.out.1, HY.out.2.1, HY.out.2.2⟩
    case round =>
      obtain ⟨k, v, hk, rfl, rfl, HR⟩ := hrel
      obtain ⟨a, ha⟩ : ∃ a, a = Mt.lv S start k := ⟨_, rfl⟩
      obtain ⟨l, hl⟩ : ∃ a, a = Mt.ls S start k := ⟨_, rfl⟩
      obtain ⟨t, ht⟩ : ∃ a, a = Mt.tl S k := ⟨_, rfl⟩
      obtain ⟨xs, hxs⟩ : ∃ a, a = Mt.lvs S start k := ⟨_, rfl⟩
      rw [← hl, ← ht, ← hxs] at HR
      rw [← ha]
      have HZ : Hid (a = Mt.lv S start k ∧ l = Mt.ls S start k ∧ t = Mt.tl S k ∧ xs = Mt.lvs S start k) := ⟨ha, hl, ht, hxs⟩
      have HBw : Hid (Below w.heap.size w wr ∧ Below X.heap.size X wr) := by
        have h := HB.out.trans (HR.out.2.2.mono hXlo)
        exact ⟨BX.out.2.trans (h.mono hXz), h⟩
      have hlr : lo ≤ wr.heap.size := by rw [HLO.out]; exact HR.out.2.2.size
      by_cases hkn : k < n
      · have hkI : (k : Int) < n := by omega
        obtain ⟨b, off, e, hc⟩ := (H wr HBw.out.1).out.1.at hkn
        have hbX := (H wr HBw.out.1).out.2 b off e (by omega)
        subst e
        have hbr : b ≠ rb := by omega
        obtain ⟨s, hs⟩ : ∃ s, s = S k := ⟨_, rfl⟩
        rw [← hs] at hc
        have c0 := hc 0 (by omega)
        have c1 := hc 1 (by omega)
        have c2 := hc 2 (by omega)
        have c3 := hc 3 (by omega)
        have g0 : wr.cell? ⟨b, off + k * 4, none⟩ = some (.int .i64 s.km) := c0
        have g1 : wr.cell? ⟨b, off + k * 4 + 1, none⟩ = some (.int .i64 s.loss) := c1
        have g2 : wr.cell? ⟨b, off + k * 4 + 2, none⟩ = some (.int .i64 s.gain) := c2
        have g3 : wr.cell? ⟨b, off + k * 4 + 3, none⟩ = some (.int .i64 s.tilt) := c3
        clear c0 c1 c2 c3
        have hok : Mt.okS s = true := by rw [hs]; exact G.out.ok k hkn
        obtain ⟨p, hp⟩ : ∃ p, p = s.km * s.loss := ⟨_, rfl⟩
        have hpb := Mt.loss_b hok
        rw [← hp] at hpb
        have hav := Mt.lv_b G.out (Nat.le_of_lt hkn)
        rw [← ha] at hav
        have hlb := Mt.ls_b G.out (Nat.le_of_lt hkn)
        rw [← hl] at hlb
        have htb := Mt.tl_b G.out (Nat.le_of_lt hkn)
        rw [← ht] at htb
        have hkk : (k : Int) ≤ 100 := by omega
        obtain ⟨⟨m1, m2⟩, ⟨m3, m4⟩, ⟨m5, m6⟩, ⟨m7, m8⟩⟩ := Mt.okS_iff.1 hok
        have hw1 : wrap64 (s.km * s.loss) = p := by rw [← hp]; unfold wrap64; omega
        obtain ⟨q, hq⟩ : ∃ q, q = a - p := ⟨_, rfl⟩
        have hw2 : wrap64 (a - p) = q := by rw [hq]; unfold wrap64; omega
        obtain ⟨d, hd⟩ : ∃ d, d = q + s.gain := ⟨_, rfl⟩
        have hw3 : wrap64 (q + s.gain) = d := by rw [hd]; unfold wrap64; omega
        obtain ⟨t2, ht2⟩ : ∃ d, d = t + s.tilt := ⟨_, rfl⟩
        have hw4 : wrap64 (t + s.tilt) = t2 := by rw [ht2]; unfold wrap64; omega
        have HN : Hid (Mt.lv S start (k + 1) = d ∧ Mt.ls S start (k + 1) = min (min l q) d ∧ Mt.tl S (k + 1) = t2 ∧ Mt.lvs S start (k + 1) = xs ++ [d] ∧ xs.length = k + 1) := by
          have e1 : Mt.lv S start (k + 1) = d := by show Mt.lv S start k - (S k).km * (S k).loss + (S k).gain = d; rw [← ha, ← hs, ← hp, hd, hq]
          refine ⟨e1, ?_, ?_, ?_, ?_⟩
          · show min (min (Mt.ls S start k) (Mt.lv S start k - (S k).km * (S k).loss)) (Mt.lv S start (k + 1)) = _; rw [e1, ← ha, ← hs, ← hp, ← hl, ← hq]
          · show Mt.tl S k + (S k).tilt = _; rw [← ht, ← hs, ht2]
          · rw [← Mt.lvs_next, e1, hxs]
          · rw [hxs, Mt.lvs_len]
        have HSS : Hid (s = S k) := hs
        clear hpb hav hlb htb hok hs hc hp hq hd ht2 ha hl ht hxs m1 m2 m3 m4 m5 m6 m7 m8
        obtain ⟨u0, hu0⟩ : ∃ u, u = wr.alloc (.cells #[.int .i64 s.km, .int .i64 s.loss, .int .i64 s.gain, .int .i64 s.tilt] 75) := ⟨_, rfl⟩
        obtain ⟨pb, hpb2⟩ : ∃ p, p = wr.heap.size := ⟨_, rfl⟩
        have BS : Hid (Blk u0 pb #[.int .i64 s.km, .int .i64 s.loss, .int .i64 s.gain, .int .i64 s.tilt] 75 ∧ Below wr.heap.size wr u0) := by rw [hu0, hpb2]; exact ⟨Blk.new rfl, (Below.refl _ _).alloc (Nat.le_refl _) _⟩
        have hpr : pb ≠ rb := by have := HR.out.1.lt; omega
        have H3 : Hid (Blk u0 rb #[.int .i64 0, v, .int .i64 l, .int .i64 t] 26 ∧ Ol u0 lo v xs ∧ Below lo w1 u0) := ⟨HR.out.1.old BS.out.2, HR.out.2.1.later BS.out.2, HR.out.2.2.trans (BS.out.2.mono hlr)⟩
        have hpl : lo ≤ pb := by omega
        have hl3 : lo ≤ u0.heap.size := Nat.le_trans hlr BS.out.2.size
        go_upto_region 9 with fail
        rw [← hu0, ← hpb2]
        clear hu0 hpb2 g0 g1 g2 g3
        have e0 := BS.out.1.cell (j := 0) (v := .int .i64 s.km) rfl
        have e1 := BS.out.1.cell (j := 1) (v := .int .i64 s.loss) rfl
        have e2 := BS.out.1.cell (j := 2) (v := .int .i64 s.gain) rfl
        have y1 := H3.out.1.cell (j := 1) (v := v) rfl
        have hxl : xs.length ≤ 2000000 := by rw [HN.out.2.2.2.2]; omega
        have hOL := H3.out.2.1
        have hK3 : ∀ (a4 : Option Addr) (c4 : Nat) (w4 : World), Ol w4 lo (.slice a4 (xs.length + 1) c4) (xs ++ [d]) → (u0.alloc (.cells #[.int .i64 d] 2)).grownBy w4 v.ownBlock → Hid (Blk w4 rb #[.int .i64 0, v, .int .i64 l, .int .i64 t] 26 ∧ Ol w4 lo (.slice a4 (xs.length + 1) c4) (xs ++ [d]) ∧ Below lo w1 w4 ∧ Blk w4 pb #[.int .i64 s.km, .int .i64 s.loss, .int .i64 s.gain, .int .i64 s.tilt] 75) := fun a4 c4 w4 ho hg => by
          refine ⟨(H3.out.1.alloc _).grownBy hg (H3.out.2.1.blkNe H3.out.1 (by decide)), ho, ?_, (BS.out.1.alloc _).grownBy hg (H3.out.2.1.blkNe BS.out.1 (by decide))⟩
          exact H3.out.2.2.trans (((Below.refl lo u0).alloc hl3 _).grown hg (by simp; omega) fun g hg2 => (H3.out.2.1.lt g hg2).1)
        replace hOL : Hid _ := hOL
        go_upto_region 12 with (first | (at_builtin; refine pushL rfl (.tmp 41) (.tmp 43) rfl u0 d lo v xs (by simp [Act.eval]) hOL.out 1 (by simp [Act.eval]) hxl hl3 ?_; intro a4 c4 w4 ho hg hp; have H4 := hK3 a4 c4 w4 ho hg; have z1 := H4.out.1.cell (j := 1) (v := v) rfl; have zf := H4.out.1.frozen; clear ho hg hp))
        clear z1 zf y1 hK3 hOL hxl e0 e1 e2 BS H3
        obtain ⟨u5, hu5⟩ : ∃ u, u = w4.setCell ⟨rb, 1, none⟩ (.slice a4 (xs.length + 1) c4) := ⟨_, rfl⟩
        have H5 : Hid (Blk u5 rb #[.int .i64 0, .slice a4 (xs.length + 1) c4, .int .i64 l, .int .i64 t] 26 ∧ Ol u5 lo (.slice a4 (xs.length + 1) c4) (xs ++ [d]) ∧ Below lo w1 u5 ∧ Blk u5 pb #[.int .i64 s.km, .int .i64 s.loss, .int .i64 s.gain, .int .i64 s.tilt] 75) := by
          rw [hu5]
          have hne := H4.out.2.1.blkNe H4.out.1 (by decide)
          refine ⟨H4.out.1.set 1 _ rfl, H4.out.2.1.keepOn fun g hg => ?_, H4.out.2.2.1.setCell hrw _, (Below.heap_setCell _ _ _ _ (by exact hpr)).trans H4.out.2.2.2⟩
          rw [Below.heap_setCell _ _ _ _ (by exact hne g hg)]
        rw [← hu5]
        clear hu5 H4
        have e3 := H5.out.2.2.2.cell (j := 3) (v := .int .i64 s.tilt) rfl
        have z2 := H5.out.1.cell (j := 2) (v := .int .i64 l) rfl
        have z3 := H5.out.1.cell (j := 3) (v := .int .i64 t) rfl
        have zf := H5.out.1.frozen
        obtain ⟨m, hm⟩ : ∃ m, m = min (min l q) d := ⟨_, rfl⟩
        have HM : Hid (m = min (min l q) d) := hm
        have hmin : ∀ (ts : Array TypeId) (t : TypeId) (W : World), (Builtin.min_ ts t #[.int .i64 l, .int .i64 q, .int .i64 d]).run Try.prog W = .ok (.int .i64 m) W := fun ts t W => by
          have e : m = (if d < (if q < l then q else l) then d else (if q < l then q else l)) := by
            rw [hm]
            by_cases c1 : q < l
            · rw [if_pos c1]
              by_cases c2 : d < q
              · rw [if_pos c2]; omega
              · rw [if_neg c2]; omega
            · rw [if_neg c1]
              by_cases c2 : d < l
              · rw [if_pos c2]; omega
              · rw [if_neg c2]; omega
          rw [e]
          simp [Builtin.min_, Builtin.min2]
        clear hm
        go_wp2
        go_roundw
        case rel =>
          have hne := H5.out.2.1.blkNe H5.out.1 (by decide)
          refine ⟨k + 1, .slice a4 (xs.length + 1) c4, by omega, by simp, by rw [HN.out.1], ?_, ?_, (H5.out.2.2.1.setCell hrw _).setCell hrw _⟩
          · rw [HN.out.2.1, HN.out.2.2.1, ← HM.out]
            exact (H5.out.1.set 2 _ rfl).set 3 _ rfl
          · rw [HN.out.2.2.2.1]
            refine H5.out.2.1.keepOn fun g hg => ?_
            rw [Below.heap_setCell _ _ _ _ (by exact hne g hg), Below.heap_setCell _ _ _ _ (by exact hne g hg)]
        case measure => simp [intOf]; omega
      · obtain rfl : n = k := by omega
        have hRr := HR.out
        rw [HZ.out.2.1, HZ.out.2.2.1, HZ.out.2.2.2] at hRr
        obtain ⟨va, vc, ev, -⟩ := hRr.2.1.form
        subst ev
        have s0 := hRr.1.cell (j := 0) (v := .int .i64 0) rfl
        have s1 := hRr.1.cell (j := 1) (v := .slice va (Mt.lvs S start n).length vc) rfl
        have s2 := hRr.1.cell (j := 2) (v := .int .i64 (Mt.ls S start n)) rfl
        have s3 := hRr.1.cell (j := 3) (v := .int .i64 (Mt.tl S n)) rfl
        have r0 := (BX.out.1.old HBw.out.2).cell (j := 0) (v := .int .i64 0) rfl
        have r1 := (BX.out.1.old HBw.out.2).cell (j := 1) (v := .slice none 0 0) rfl
        have r2 := (BX.out.1.old HBw.out.2).cell (j := 2) (v := .int .i64 0) rfl
        have r3 := (BX.out.1.old HBw.out.2).cell (j := 3) (v := .int .i64 0) rfl
        have rf := (BX.out.1.old HBw.out.2).frozen
        have hne : ∀ g, (Value.slice va (Mt.lvs S start n).length vc).ownBlock = some g → g ≠ w.heap.size := hRr.2.1.blkNe (BX.out.1.old HBw.out.2) (by decide)
        have HBR : Hid (Blk ((((wr.setCell ⟨w.heap.size, 0, none⟩ (.int .i64 0)).setCell ⟨w.heap.size, 1, none⟩ (.slice va (Mt.lvs S start n).length vc)).setCell ⟨w.heap.size, 2, none⟩ (.int .i64 (Mt.ls S start n))).setCell ⟨w.heap.size, 3, none⟩ (.int .i64 (Mt.tl S n))) w.heap.size #[.int .i64 0, .slice va (Mt.lvs S start n).length vc, .int .i64 (Mt.ls S start n), .int .i64 (Mt.tl S n)] 26 ∧ Ol ((((wr.setCell ⟨w.heap.size, 0, none⟩ (.int .i64 0)).setCell ⟨w.heap.size, 1, none⟩ (.slice va (Mt.lvs S start n).length vc)).setCell ⟨w.heap.size, 2, none⟩ (.int .i64 (Mt.ls S start n))).setCell ⟨w.heap.size, 3, none⟩ (.int .i64 (Mt.tl S n))) lo (.slice va (Mt.lvs S start n).length vc) (Mt.lvs S start n) ∧ Below w.heap.size w ((((wr.setCell ⟨w.heap.size, 0, none⟩ (.int .i64 0)).setCell ⟨w.heap.size, 1, none⟩ (.slice va (Mt.lvs S start n).length vc)).setCell ⟨w.heap.size, 2, none⟩ (.int .i64 (Mt.ls S start n))).setCell ⟨w.heap.size, 3, none⟩ (.int .i64 (Mt.tl S n)))) := by
          refine ⟨(((((BX.out.1.old HBw.out.2).set 0 _ rfl).set 1 _ rfl).set 2 _ rfl).set 3 _ rfl), hRr.2.1.keepOn fun g hg => ?_, ((((HBw.out.1.setCell (Nat.le_refl _) _).setCell (Nat.le_refl _) _).setCell (Nat.le_refl _) _).setCell (Nat.le_refl _) _)⟩
          have h := hne g hg
          rw [Below.heap_setCell _ _ _ _ (by exact h), Below.heap_setCell _ _ _ _ (by exact h), Below.heap_setCell _ _ _ _ (by exact h), Below.heap_setCell _ _ _ _ (by exact h)]
        clear hne
        go_wp2_with fail
        have q0 := HBR.out.1.cell (j := 0) (v := .int .i64 0) rfl
        have q1 := HBR.out.1.cell (j := 1) (v := .slice va (Mt.lvs S start n).length vc) rfl
        have q2 := HBR.out.1.cell (j := 2) (v := .int .i64 (Mt.ls S start n)) rfl
        have q3 := HBR.out.1.cell (j := 3) (v := .int .i64 (Mt.tl S n)) rfl
        refine bodyPost_ret (v := .agg #[.int .i64 0, .slice va (Mt.lvs S start n).length vc, .int .i64 (Mt.ls S start n), .int .i64 (Mt.tl S n)]) ?_ rfl ⟨_, rfl, OwnI.of (HBR.out.2.1.low (by omega)) (Nat.le_refl _), HBR.out.2.2⟩
        simp [results, Try.results16, go_sem, q0, q1, q2, q3]
end Go.Proofs.Ytelejihgechmgaa
