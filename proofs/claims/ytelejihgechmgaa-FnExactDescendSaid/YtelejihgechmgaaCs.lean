/- The specification's ChainLevels: contracts. -/
import Derived.Test.YtelejihgechmgaaLo
import Derived.Test.YtelejihgechmgaaSs
namespace Go.Proofs.Ytelejihgechmgaa
open Go.RowKit
set_option linter.unusedVariables false
set_option linter.unusedSimpArgs false
set_option maxRecDepth 20000 in
set_option maxHeartbeats 1600000 in
theorem sIn_any (n lo hi : Int) (w : World) : Calls Try.prog 55 #[.int .i64 n, .int .i64 lo, .int .i64 hi] w fun e w' => e = .returned (.bool (Mt.inR n lo hi)) ∧ w = w' := by
  by_cases c1 : lo ≤ n
  · by_cases c2 : n ≤ hi
    · rw [show Mt.inR n lo hi = true from Mt.inR_iff.2 ⟨c1, c2⟩]
      go_enter Try.func55, Try.ntmps55
      go_wp2
      go_ret
      exact ⟨rfl, rfl⟩
    · rw [show Mt.inR n lo hi = false from Mt.inR_not.2 (Or.inr (by omega))]
      go_enter Try.func55, Try.ntmps55
      go_wp2
      go_ret
      exact ⟨rfl, rfl⟩
  · rw [show Mt.inR n lo hi = false from Mt.inR_not.2 (Or.inl (by omega))]
    go_enter Try.func55, Try.ntmps55
    go_wp2
    go_ret
    exact ⟨rfl, rfl⟩
set_option maxRecDepth 20000 in
set_option maxHeartbeats 1600000 in
theorem sMin_any (a b : Int) (w : World) : Calls Try.prog 56 #[.int .i64 a, .int .i64 b] w fun e w' => e = .returned (.int .i64 (min a b)) ∧ w = w' := by
  by_cases c : a < b
  · rw [show min a b = a by omega]
    go_enter Try.func56, Try.ntmps56
    go_wp2
    go_ret
    exact ⟨rfl, rfl⟩
  · rw [show min a b = b by omega]
    go_enter Try.func56, Try.ntmps56
    go_wp2
    go_ret
    exact ⟨rfl, rfl⟩
set_option maxRecDepth 20000 in
set_option maxHeartbeats 3200000 in
theorem sSpan_any (s : Mt.Sp) (w : World) : Calls Try.prog 54 #[.agg #[.int .i64 s.km, .int .i64 s.loss, .int .i64 s.gain, .int .i64 s.tilt]] w fun e w' => e = .returned (.bool (Mt.okS s)) ∧ Below w.heap.size w w' := by
  cases h0 : Mt.inR s.km 1 1000 with
  | false =>
    rw [show Mt.okS s = false by unfold Mt.okS; rw [h0]; rfl]
    go_enter Try.func54, Try.ntmps54
    go_wp2_with (first | (go_at_call 55; refine (sIn_any _ _ _ _).mono ?_; rintro e w1 ⟨rfl, rfl⟩; first | rw [h0]))
    go_ret
    exact ⟨rfl, by go_grown⟩
  | true =>
    cases h1 : Mt.inR s.loss 0 1000 with
    | false =>
      rw [show Mt.okS s = false by unfold Mt.okS; rw [h0, h1]; rfl]
      go_enter Try.func54, Try.ntmps54
      go_wp2_with (first | (go_at_call 55; refine (sIn_any _ _ _ _).mono ?_; rintro e w1 ⟨rfl, rfl⟩; first | rw [h0] | rw [h1]))
      go_ret
      exact ⟨rfl, by go_grown⟩
    | true =>
      cases h2 : Mt.inR s.gain (-100000) 100000 with
      | false =>
        rw [show Mt.okS s = false by unfold Mt.okS; rw [h0, h1, h2]; rfl]
        go_enter Try.func54, Try.ntmps54
        go_wp2_with (first | (go_at_call 55; refine (sIn_any _ _ _ _).mono ?_; rintro e w1 ⟨rfl, rfl⟩; first | rw [h0] | rw [h1] | rw [h2]))
        go_ret
        exact ⟨rfl, by go_grown⟩
      | true =>
        cases h3 : Mt.inR s.tilt (-10000) 10000 with
        | false =>
          rw [show Mt.okS s = false by unfold Mt.okS; rw [h0, h1, h2, h3]; rfl]
          go_enter Try.func54, Try.ntmps54
          go_wp2_with (first | (go_at_call 55; refine (sIn_any _ _ _ _).mono ?_; rintro e w1 ⟨rfl, rfl⟩; first | rw [h0] | rw [h1] | rw [h2] | rw [h3]))
          go_ret
          exact ⟨rfl, by go_grown⟩
        | true =>
          rw [show Mt.okS s = true by unfold Mt.okS; rw [h0, h1, h2, h3]; rfl]
          go_enter Try.func54, Try.ntmps54
          go_wp2_with (first | (go_at_call 55; refine (sIn_any _ _ _ _).mono ?_; rintro e w1 ⟨rfl, rfl⟩; first | rw [h0] | rw [h1] | rw [h2] | rw [h3]))
          go_ret
          exact ⟨rfl, by go_grown⟩
set_option maxRecDepth 20000 in
set_option maxHeartbeats 12800000 in
theorem sChain_any {w : World} {ao : Option Addr} {n cap : Nat} {S : Nat → Mt.Sp} {start c l t : Int} (hc : c = Mt.ccode S n start) (hl : l = Mt.cl S n start) (ht : t = Mt.ct S n start) (h : RdV w (.slice ao n cap) n 4 (fun i j => scell (S i) j)) (hn : n ≤ 1048576) :
    Calls Try.prog 14 #[.slice ao n cap, .int .i64 start] w fun e w' => ∃ v, e = .returned (.agg #[.int .i64 c, v, .int .i64 l, .int .i64 t]) ∧ OwnI w.heap.size w'.heap.size w' c v (Mt.lvs S start n) ∧ Below w.heap.size w w' := by
  have H : ∀ W, Below w.heap.size w W → Hid (RdV W (.slice ao n cap) n 4 (fun i j => scell (S i) j) ∧ ∀ b off, ao = some ⟨b, off, none⟩ → 0 < n → b < w.heap.size) := fun W hb => ⟨h.later hb, fun b off e hp => by
    obtain ⟨b', off', e', hc'⟩ := h.at hp
    have := World.block_lt_of_cell? _ _ (hc' 0 (by omega))
    rw [e] at e'
    simp only [Option.some.injEq, Addr.mk.injEq] at e'
    rw [e'.1]
    exact this⟩
  clear h
  have hnI : (n : Int) ≤ 1048576 := by omega
  have HC : Hid (c = Mt.ccode S n start ∧ l = Mt.cl S n start ∧ t = Mt.ct S n start) := ⟨hc, hl, ht⟩
  clear hc hl ht
  have bad : ∀ q : Int, q ≠ 0 → Mt.ccode S n start = q → c = q ∧ l = 0 ∧ t = 0 := fun q hq e => by
    obtain ⟨h1, h2, h3⟩ := HC.out
    refine ⟨h1.trans e, h2.trans ?_, h3.trans ?_⟩
    · unfold Mt.cl; rw [if_neg (by omega)]
    · unfold Mt.ct; rw [if_neg (by omega)]
  have fine : Mt.ccode S n start = 0 → c = 0 ∧ l = Mt.ls S start n ∧ t = Mt.tl S n := fun e => by
    obtain ⟨h1, h2, h3⟩ := HC.out
    refine ⟨h1.trans e, h2.trans ?_, h3.trans ?_⟩
    · unfold Mt.cl; rw [if_pos e]
    · unfold Mt.ct; rw [if_pos e]
  replace bad : Hid _ := bad
  replace fine : Hid _ := fine
  obtain ⟨X, hX⟩ : ∃ X, X = w.alloc (.cells #[.int .i64 0, .slice none 0 0, .int .i64 0, .int .i64 0] 26) := ⟨_, rfl⟩
  have BX : Hid (Blk X w.heap.size #[.int .i64 0, .slice none 0 0, .int .i64 0, .int .i64 0] 26 ∧ Below w.heap.size w X) := by rw [hX]; exact ⟨Blk.new rfl, (Below.refl _ _).alloc (Nat.le_refl _) _⟩
  have hXz : w.heap.size ≤ X.heap.size := Nat.le_of_lt BX.out.1.lt
  have hX1 : w.heap.size < X.heap.size := BX.out.1.lt
  by_cases hlong : 100 < n
  · obtain ⟨rfl, rfl, rfl⟩ := bad.out 2 (by decide) (by unfold Mt.ccode; rw [if_pos hlong])
    have hlI : (100 : Int) < n := by omega
    clear H
    go_enter Try.func14, Try.ntmps14
    go_upto_region 2 with fail
    rw [← hX]
    clear hX
    have r0 := (BX.out.1.old (Below.refl _ _)).cell (j := 0) (v := .int .i64 0) rfl
    have r1 := (BX.out.1.old (Below.refl _ _)).cell (j := 1) (v := .slice none 0 0) rfl
    have r2 := (BX.out.1.old (Below.refl _ _)).cell (j := 2) (v := .int .i64 0) rfl
    have r3 := (BX.out.1.old (Below.refl _ _)).cell (j := 3) (v := .int .i64 0) rfl
    have rf := (BX.out.1.old (Below.refl _ _)).frozen
    have HBR : Hid (Blk (((((X).setCell ⟨w.heap.size, 0, none⟩ (.int .i64 2)).setCell ⟨w.heap.size, 1, none⟩ (.slice none 0 0)).setCell ⟨w.heap.size, 2, none⟩ (.int .i64 0)).setCell ⟨w.heap.size, 3, none⟩ (.int .i64 0)) w.heap.size #[.int .i64 2, .slice none 0 0, .int .i64 0, .int .i64 0] 26 ∧ Below w.heap.size w (((((X).setCell ⟨w.heap.size, 0, none⟩ (.int .i64 2)).setCell ⟨w.heap.size, 1, none⟩ (.slice none 0 0)).setCell ⟨w.heap.size, 2, none⟩ (.int .i64 0)).setCell ⟨w.heap.size, 3, none⟩ (.int .i64 0))) := ⟨(((((BX.out.1.old (Below.refl _ _)).set 0 _ rfl).set 1 _ rfl).set 2 _ rfl).set 3 _ rfl), (((((BX.out.2.trans ((Below.refl _ _).mono hXz)).setCell (by simp) _).setCell (by simp) _).setCell (by simp) _).setCell (by simp) _)⟩
    go_wp2_with fail
    have s0 := HBR.out.1.cell (j := 0) (v := .int .i64 2) rfl
    have s1 := HBR.out.1.cell (j := 1) (v := .slice none 0 0) rfl
    have s2 := HBR.out.1.cell (j := 2) (v := .int .i64 0) rfl
    have s3 := HBR.out.1.cell (j := 3) (v := .int .i64 0) rfl
    refine bodyPost_ret (v := .agg #[.int .i64 2, .slice none 0 0, .int .i64 0, .int .i64 0]) ?_ rfl ⟨_, rfl, Or.inl ⟨by decide, rfl⟩, HBR.out.2⟩
    simp [results, Try.results14, go_sem, s0, s1, s2, s3]
  have hsI : (n : Int) ≤ 100 := by omega
  go_enter Try.func14, Try.ntmps14
  go_wp2_with fail
  rw [← hX]
  clear hX
  go_loopw [5] (fun i wr => ∃ k : Nat, k ≤ n ∧ i = .int .i64 k ∧ Hid (Below X.heap.size X wr) ∧ Hid (Mt.all (fun k => Mt.okS (S k)) k = true)) (fun i _ => n - (intOf i).toNat)
  case atStart => exact ⟨0, Nat.zero_le _, rfl, Below.refl _ _, rfl⟩
  case round =>
    obtain ⟨k, hk, rfl, HB, HF⟩ := hrel
    have HB' : Hid (Below w.heap.size w wr) := BX.out.2.trans (HB.out.mono hXz)
    by_cases hkn : k < n
    · obtain ⟨b, off, rfl, hc⟩ := (H wr HB'.out).out.1.at hkn
      obtain ⟨s, hs⟩ : ∃ s, s = S k := ⟨_, rfl⟩
      rw [← hs] at hc
      have g0 : wr.cell? ⟨b, off + k * 4, none⟩ = some (.int .i64 s.km) := hc 0 (by omega)
      have g1 : wr.cell? ⟨b, off + k * 4 + 1, none⟩ = some (.int .i64 s.loss) := hc 1 (by omega)
      have g2 : wr.cell? ⟨b, off + k * 4 + 2, none⟩ = some (.int .i64 s.gain) := hc 2 (by omega)
      have g3 : wr.cell? ⟨b, off + k * 4 + 3, none⟩ = some (.int .i64 s.tilt) := hc 3 (by omega)
      have HS : Hid (s = S k) := hs
      have hkI : (k : Int) < n := by omega
      clear hc hs H
      cases hj : Mt.okS s with
      | true =>
        have HCl := sSpan_any s
        rw [hj] at HCl
        have HF2 : Hid (Mt.all (fun k => Mt.okS (S k)) (k + 1) = true) := Mt.all_next HF.out (by show Mt.okS (S k) = true; rw [← HS.out]; exact hj)
        clear hj
        go_wp2_with (first | (go_at_call 54; refine (HCl _).mono ?_; rintro e w1 ⟨rfl, hb1⟩))
        go_roundw
        case rel => exact ⟨k + 1, by omega, by simp, HB.out.trans (hb1.mono HB.out.size), HF2⟩
        case measure => simp [intOf]; omega
      | false =>
        have HCl := sSpan_any s
        rw [hj] at HCl
        obtain ⟨rfl, rfl, rfl⟩ := bad.out 3 (by decide) (by unfold Mt.ccode; rw [if_neg hlong, Mt.all_hit hkn (by show Mt.okS (S k) = false; rw [← HS.out]; exact hj)]; rfl)
        clear hj
        go_upto_region 7 with (first | (go_at_call 54; refine (HCl _).mono ?_; rintro e w1 ⟨rfl, hb1⟩))
        clear g0 g1 g2 g3
        have r0 := (BX.out.1.old (HB.out.trans (hb1.mono HB.out.size))).cell (j := 0) (v := .int .i64 0) rfl
        have r1 := (BX.out.1.old (HB.out.trans (hb1.mono HB.out.size))).cell (j := 1) (v := .slice none 0 0) rfl
        have r2 := (BX.out.1.old (HB.out.trans (hb1.mono HB.out.size))).cell (j := 2) (v := .int .i64 0) rfl
        have r3 := (BX.out.1.old (HB.out.trans (hb1.mono HB.out.size))).cell (j := 3) (v := .int .i64 0) rfl
        have rf := (BX.out.1.old (HB.out.trans (hb1.mono HB.out.size))).frozen
        have HBR : Hid (Blk (((((w1).setCell ⟨w.heap.size, 0, none⟩ (.int .i64 3)).setCell ⟨w.heap.size, 1, none⟩ (.slice none 0 0)).setCell ⟨w.heap.size, 2, none⟩ (.int .i64 0)).setCell ⟨w.heap.size, 3, none⟩ (.int .i64 0)) w.heap.size #[.int .i64 3, .slice none 0 0, .int .i64 0, .int .i64 0] 26 ∧ Below w.heap.size w (((((w1).setCell ⟨w.heap.size, 0, none⟩ (.int .i64 3)).setCell ⟨w.heap.size, 1, none⟩ (.slice none 0 0)).setCell ⟨w.heap.size, 2, none⟩ (.int .i64 0)).setCell ⟨w.heap.size, 3, none⟩ (.int .i64 0))) := ⟨(((((BX.out.1.old (HB.out.trans (hb1.mono HB.out.size))).set 0 _ rfl).set 1 _ rfl).set 2 _ rfl).set 3 _ rfl), (((((BX.out.2.trans ((HB.out.trans (hb1.mono HB.out.size)).mono hXz)).setCell (by simp) _).setCell (by simp) _).setCell (by simp) _).setCell (by simp) _)⟩
        go_wp2_with fail
        have s0 := HBR.out.1.cell (j := 0) (v := .int .i64 3) rfl
        have s1 := HBR.out.1.cell (j := 1) (v := .slice none 0 0) rfl
        have s2 := HBR.out.1.cell (j := 2) (v := .int .i64 0) rfl
        have s3 := HBR.out.1.cell (j := 3) (v := .int .i64 0) rfl
        refine bodyPost_ret (v := .agg #[.int .i64 3, .slice none 0 0, .int .i64 0, .int .i64 0]) ?_ rfl ⟨_, rfl, Or.inl ⟨by decide, rfl⟩, HBR.out.2⟩
        simp [results, Try.results14, go_sem, s0, s1, s2, s3]
    · obtain rfl : n = k := by omega
      cases hj : Mt.inR start (-100000) 100000 with
      | false =>
        obtain ⟨rfl, rfl, rfl⟩ := bad.out 3 (by decide) (by unfold Mt.ccode; rw [if_neg hlong, if_pos HF.out, hj]; rfl)
        clear H
        go_upto_region 9 with (first | (go_at_call 55; refine (sIn_any start (-100000) 100000 _).mono ?_; rintro e w1 ⟨rfl, rfl⟩; rw [hj]))
        have r0 := (BX.out.1.old HB.out).cell (j := 0) (v := .int .i64 0) rfl
        have r1 := (BX.out.1.old HB.out).cell (j := 1) (v := .slice none 0 0) rfl
        have r2 := (BX.out.1.old HB.out).cell (j := 2) (v := .int .i64 0) rfl
        have r3 := (BX.out.1.old HB.out).cell (j := 3) (v := .int .i64 0) rfl
        have rf := (BX.out.1.old HB.out).frozen
        have HBR : Hid (Blk (((((wr).setCell ⟨w.heap.size, 0, none⟩ (.int .i64 3)).setCell ⟨w.heap.size, 1, none⟩ (.slice none 0 0)).setCell ⟨w.heap.size, 2, none⟩ (.int .i64 0)).setCell ⟨w.heap.size, 3, none⟩ (.int .i64 0)) w.heap.size #[.int .i64 3, .slice none 0 0, .int .i64 0, .int .i64 0] 26 ∧ Below w.heap.size w (((((wr).setCell ⟨w.heap.size, 0, none⟩ (.int .i64 3)).setCell ⟨w.heap.size, 1, none⟩ (.slice none 0 0)).setCell ⟨w.heap.size, 2, none⟩ (.int .i64 0)).setCell ⟨w.heap.size, 3, none⟩ (.int .i64 0))) := ⟨(((((BX.out.1.old HB.out).set 0 _ rfl).set 1 _ rfl).set 2 _ rfl).set 3 _ rfl), (((((BX.out.2.trans (HB.out.mono hXz)).setCell (by simp) _).setCell (by simp) _).setCell (by simp) _).setCell (by simp) _)⟩
        go_wp2_with fail
        have s0 := HBR.out.1.cell (j := 0) (v := .int .i64 3) rfl
        have s1 := HBR.out.1.cell (j := 1) (v := .slice none 0 0) rfl
        have s2 := HBR.out.1.cell (j := 2) (v := .int .i64 0) rfl
        have s3 := HBR.out.1.cell (j := 3) (v := .int .i64 0) rfl
        refine bodyPost_ret (v := .agg #[.int .i64 3, .slice none 0 0, .int .i64 0, .int .i64 0]) ?_ rfl ⟨_, rfl, Or.inl ⟨by decide, rfl⟩, HBR.out.2⟩
        simp [results, Try.results14, go_sem, s0, s1, s2, s3]
      | true =>
        have h0 : Mt.ccode S n start = 0 := by unfold Mt.ccode; rw [if_neg hlong, if_pos HF.out, hj]; rfl
        obtain ⟨rfl, rfl, rfl⟩ := fine.out h0
        have G : Hid (Mt.Good S n start) := Mt.good h0
        clear h0
        go_upto_region 10 with (first | (go_at_call 55; refine (sIn_any start (-100000) 100000 _).mono ?_; rintro e w1 ⟨rfl, rfl⟩; rw [hj]))
        clear hj
        obtain ⟨w1, hw1⟩ : ∃ w1, w1 = wr := ⟨_, rfl⟩
        rw [← hw1] at HB HB' ⊢
        clear hw1
        obtain ⟨Y, hY⟩ : ∃ Y, Y = (w1.alloc (.cells #[.int .i64 start] 2)).alloc (.cells #[.int .i64 0, .slice (some ⟨w1.heap.size, 0, none⟩) 1 1, .int .i64 start, .int .i64 0] 26) := ⟨_, rfl⟩
        obtain ⟨rb, hrb⟩ : ∃ r, r = w1.heap.size + 1 := ⟨_, rfl⟩
        have BY : Hid (Blk Y rb #[.int .i64 0, .slice (some ⟨w1.heap.size, 0, none⟩) 1 1, .int .i64 start, .int .i64 0] 26 ∧ Ol Y w1.heap.size (.slice (some ⟨w1.heap.size, 0, none⟩) 1 1) [start] ∧ Below w1.heap.size w1 Y) := by
          have e : rb = (w1.alloc (.cells #[.int .i64 start] 2)).heap.size := by simp [hrb]
          rw [hY, e]
          refine ⟨Blk.new rfl, (Ol.one w1 start).later ((Below.refl _ _).alloc (Nat.le_refl _) _), ((Below.refl _ _).alloc (Nat.le_refl _) _).alloc (by simp) _⟩
        have hrw : w1.heap.size ≤ rb := by omega
        have hXw : X.heap.size ≤ w1.heap.size := HB.out.size
        have hnr : w.heap.size ≠ rb := by omega
        go_upto_region 13 with fail
        first | (rw [← hrb, ← hY]) | (rw [← hY])
        clear hY hrb bad fine
        have HY : Hid (Blk Y rb #[.int .i64 0, .slice (some ⟨w1.heap.size, 0, none⟩) 1 1, .int .i64 start, .int .i64 0] 26 ∧ Ol Y w1.heap.size (.slice (some ⟨w1.heap.size, 0, none⟩) 1 1) (Mt.lvs S start 0) ∧ Below w1.heap.size w1 Y) := BY.out
        clear BY
        obtain ⟨lo, hlo⟩ : ∃ lo, lo = w1.heap.size := ⟨_, rfl⟩
        have HLO : Hid (lo = w1.heap.size) := hlo
        rw [← hlo] at HY hrw
        have hXlo : X.heap.size ≤ lo := by omega
        clear hlo
        go_loopw [7, 8] (fun u i wr => ∃ (k : Nat) (v : Value), k ≤ n ∧ i = .int .i64 k ∧ u = .int .i64 (Mt.lv S start k) ∧ Hid (Blk wr rb #[.int .i64 0, v, .int .i64 (Mt.ls S start k), .int .i64 (Mt.tl S k)] 26 ∧ Ol wr lo v (Mt.lvs S start k) ∧ Below lo w1 wr)) (fun _ i _ => n - (intOf i).toNat)
        case atStart => exact ⟨0, _, Nat.zero_le _, rfl, rfl, HY.out.1, HY.out.2.1, HY.out.2.2⟩
        case round =>
          obtain ⟨k, v, hk, rfl, rfl, HR⟩ := hrel
          obtain ⟨a, ha⟩ : ∃ a, a = Mt.lv S start k := ⟨_, rfl⟩
          obtain ⟨l, hl⟩ : ∃ a, a = Mt.ls S start k := ⟨_, rfl⟩
          obtain ⟨t, ht⟩ : ∃ a, a = Mt.tl S k := ⟨_, rfl⟩
          obtain ⟨xs, hxs⟩ : ∃ a, a = Mt.lvs S start k := ⟨_, rfl⟩
          rw [← hl, ← ht, ← hxs] at HR
          rw [← ha]
          have HZ : Hid (a = Mt.lv S start k ∧ l = Mt.ls S start k ∧ t = Mt.tl S k ∧ xs = Mt.lvs S start k) := ⟨ha, hl, ht, hxs⟩
          have HBw : Hid (Below w.heap.size w wr ∧ Below X.heap.size X wr) := by
            have h := HB.out.trans (HR.out.2.2.mono hXlo)
            exact ⟨BX.out.2.trans (h.mono hXz), h⟩
          have hlr : lo ≤ wr.heap.size := by rw [HLO.out]; exact HR.out.2.2.size
          by_cases hkn : k < n
          · have hkI : (k : Int) < n := by omega
            obtain ⟨b, off, e, hc⟩ := (H wr HBw.out.1).out.1.at hkn
            have hbX := (H wr HBw.out.1).out.2 b off e (by omega)
            subst e
            have hbr : b ≠ rb := by omega
            obtain ⟨s, hs⟩ : ∃ s, s = S k := ⟨_, rfl⟩
            rw [← hs] at hc
            have C0 : ∀ W, Below wr.heap.size wr W → W.cell? ⟨b, off + k * 4, none⟩ = some (.int .i64 s.km) ∧ W.cell? ⟨b, off + k * 4 + 1, none⟩ = some (.int .i64 s.loss) ∧ W.cell? ⟨b, off + k * 4 + 2, none⟩ = some (.int .i64 s.gain) ∧ W.cell? ⟨b, off + k * 4 + 3, none⟩ = some (.int .i64 s.tilt) := fun W h => ⟨kold h (hc 0 (by omega)), kold h (hc 1 (by omega)), kold h (hc 2 (by omega)), kold h (hc 3 (by omega))⟩
            have hok : Mt.okS s = true := by rw [hs]; exact G.out.ok k hkn
            obtain ⟨p, hp⟩ : ∃ p, p = s.km * s.loss := ⟨_, rfl⟩
            have hpb := Mt.loss_b hok
            rw [← hp] at hpb
            have hav := Mt.lv_b G.out (Nat.le_of_lt hkn)
            rw [← ha] at hav
            have hlb := Mt.ls_b G.out (Nat.le_of_lt hkn)
            rw [← hl] at hlb
            have htb := Mt.tl_b G.out (Nat.le_of_lt hkn)
            rw [← ht] at htb
            have hkk : (k : Int) ≤ 100 := by omega
            obtain ⟨⟨m1, m2⟩, ⟨m3, m4⟩, ⟨m5, m6⟩, ⟨m7, m8⟩⟩ := Mt.okS_iff.1 hok
            have hw1 : wrap64 (s.km * s.loss) = p := by rw [← hp]; unfold wrap64; omega
            obtain ⟨q, hq⟩ : ∃ q, q = a - p := ⟨_, rfl⟩
            have hw2 : wrap64 (a - p) = q := by rw [hq]; unfold wrap64; omega
            obtain ⟨d, hd⟩ : ∃ d, d = q + s.gain := ⟨_, rfl⟩
            have hw3 : wrap64 (q + s.gain) = d := by rw [hd]; unfold wrap64; omega
            obtain ⟨t2, ht2⟩ : ∃ d, d = t + s.tilt := ⟨_, rfl⟩
            have hw4 : wrap64 (t + s.tilt) = t2 := by rw [ht2]; unfold wrap64; omega
            have HN : Hid (Mt.lv S start (k + 1) = d ∧ Mt.ls S start (k + 1) = min (min l q) d ∧ Mt.tl S (k + 1) = t2 ∧ Mt.lvs S start (k + 1) = xs ++ [d] ∧ xs.length = k + 1) := by
              have e1 : Mt.lv S start (k + 1) = d := by show Mt.lv S start k - (S k).km * (S k).loss + (S k).gain = d; rw [← ha, ← hs, ← hp, hd, hq]
              refine ⟨e1, ?_, ?_, ?_, ?_⟩
              · show min (min (Mt.ls S start k) (Mt.lv S start k - (S k).km * (S k).loss)) (Mt.lv S start (k + 1)) = _; rw [e1, ← ha, ← hs, ← hp, ← hl, ← hq]
              · show Mt.tl S k + (S k).tilt = _; rw [← ht, ← hs, ht2]
              · rw [← Mt.lvs_next, e1, hxs]
              · rw [hxs, Mt.lvs_len]
            have HSS : Hid (s = S k) := hs
            clear hpb hav hlb htb hok hs hc hp hq hd ht2 ha hl ht hxs m1 m2 m3 m4 m5 m6 m7 m8
            go_upto_region 15 with fail
            have KC : ∀ z : Kept wr.heap.size wr, z.w.cell? ⟨b, off + k * 4, none⟩ = some (.int .i64 s.km) ∧ z.w.cell? ⟨b, off + k * 4 + 1, none⟩ = some (.int .i64 s.loss) := fun z => ⟨(C0 _ z.h).1, (C0 _ z.h).2.1⟩
            have KC0 := fun z : Kept wr.heap.size wr => (KC z).1
            have KC1 := fun z : Kept wr.heap.size wr => (KC z).2
            clear KC
            refine wp_region_kept wr.heap.size (by kernel_rfl) (by kernel_rfl) ?_
            intro hne
            repeat (go_big_quiet_step (first | fail))
            refine wpQuiet_nil ?_
            rintro u1 ⟨xk, hxk⟩
            have hR1 := xk.h
            rw [← hxk] at hR1
            clear hxk xk hne KC0 KC1
            have H1 : Hid (Blk u1 rb #[.int .i64 0, v, .int .i64 l, .int .i64 t] 26 ∧ Ol u1 lo v xs ∧ Below lo w1 u1) := ⟨HR.out.1.old hR1, HR.out.2.1.later hR1, HR.out.2.2.trans (hR1.mono hlr)⟩
            have g2 := (C0 _ hR1).2.2.1
            have hl1 : lo ≤ u1.heap.size := Nat.le_trans hlr hR1.size
            have r2 := H1.out.1.cell (j := 2) (v := .int .i64 l) rfl
            have rf := H1.out.1.frozen
            clear hR1 C0
            go_upto_region 19 with (first | (go_at_call 56; refine (sMin_any _ _ _).mono ?_; rintro e u2 ⟨rfl, rfl⟩))
            clear g2 r2 rf hw1 hw2 hw3
            obtain ⟨m, hm⟩ : ∃ m, m = min l (min q d) := ⟨_, rfl⟩
            have HM : Hid (m = min (min l q) d) := by show m = _; rw [hm]; omega
            obtain ⟨u3, hu3⟩ : ∃ u, u = (u1.setCell ⟨rb, 2, none⟩ (.int .i64 (min l q))).setCell ⟨rb, 2, none⟩ (.int .i64 m) := ⟨_, rfl⟩
            have H3 : Hid (Blk u3 rb #[.int .i64 0, v, .int .i64 m, .int .i64 t] 26 ∧ Ol u3 lo v xs ∧ Below lo w1 u3) := by
              rw [hu3]
              have hne := H1.out.2.1.blkNe H1.out.1 (by decide)
              refine ⟨(H1.out.1.set 2 _ rfl).set 2 _ rfl, H1.out.2.1.keepOn fun g hg => ?_, (H1.out.2.2.setCell hrw _).setCell hrw _⟩
              rw [Below.heap_setCell _ _ _ _ (by exact hne g hg), Below.heap_setCell _ _ _ _ (by exact hne g hg)]
            have hl3 : lo ≤ u3.heap.size := by rw [hu3]; simpa using hl1
            first | (rw [← hm, ← hu3]) | (rw [← hu3])
            clear hm hu3
            have y1 := H3.out.1.cell (j := 1) (v := v) rfl
            have hxl : xs.length ≤ 2000000 := by rw [HN.out.2.2.2.2]; omega
            have hOL := H3.out.2.1
            have hK3 : ∀ (a4 : Option Addr) (c4 : Nat) (w4 : World), Ol w4 lo (.slice a4 (xs.length + 1) c4) (xs ++ [d]) → (u3.alloc (.cells #[.int .i64 d] 2)).grownBy w4 v.ownBlock → Hid (Blk w4 rb #[.int .i64 0, v, .int .i64 m, .int .i64 t] 26 ∧ Ol w4 lo (.slice a4 (xs.length + 1) c4) (xs ++ [d]) ∧ Below lo w1 w4) := fun a4 c4 w4 ho hg => by
              refine ⟨(H3.out.1.alloc _).grownBy hg (H3.out.2.1.blkNe H3.out.1 (by decide)), ho, ?_⟩
              exact H3.out.2.2.trans (((Below.refl lo u3).alloc hl3 _).grown hg (by simp; omega) fun g hg2 => (H3.out.2.1.lt g hg2).1)
            replace hOL : Hid _ := hOL
            go_upto_region 20 with (first | (at_builtin; refine pushL rfl (.tmp 72) (.tmp 74) rfl u3 d lo v xs (by simp [Act.eval]) hOL.out 1 (by simp [Act.eval]) hxl hl3 ?_; intro a4 c4 w4 ho hg hp; have H4 := hK3 a4 c4 w4 ho hg; have z1 := H4.out.1.cell (j := 1) (v := v) rfl; have zf := H4.out.1.frozen; clear ho hg hp))
            clear z1 zf y1 hK3 hOL hxl
            obtain ⟨u5, hu5⟩ : ∃ u, u = w4.setCell ⟨rb, 1, none⟩ (.slice a4 (xs.length + 1) c4) := ⟨_, rfl⟩
            have H5 : Hid (Blk u5 rb #[.int .i64 0, .slice a4 (xs.length + 1) c4, .int .i64 m, .int .i64 t] 26 ∧ Ol u5 lo (.slice a4 (xs.length + 1) c4) (xs ++ [d]) ∧ Below lo w1 u5) := by
              rw [hu5]
              have hne := H4.out.2.1.blkNe H4.out.1 (by decide)
              refine ⟨H4.out.1.set 1 _ rfl, H4.out.2.1.keepOn fun g hg => ?_, H4.out.2.2.setCell hrw _⟩
              rw [Below.heap_setCell _ _ _ _ (by exact hne g hg)]
            rw [← hu5]
            clear hu5
            have hl5 : lo ≤ u5.heap.size := by rw [HLO.out]; exact H5.out.2.2.size
            have KT : ∀ z : Kept u5.heap.size u5, z.w.cell? ⟨b, off + k * 4 + 3, none⟩ = some (.int .i64 s.tilt) := fun z => by
              rw [HSS.out]
              have h := HB.out.trans ((H5.out.2.2.trans (z.h.mono hl5)).mono hXlo)
              obtain ⟨b', off', e', hc'⟩ := (H z.w (BX.out.2.trans (h.mono hXz))).out.1.at hkn
              simp only [Option.some.injEq, Addr.mk.injEq] at e'
              obtain ⟨rfl, rfl, -⟩ := e'
              exact hc' 3 (by omega)
            have KL : ∀ z : Kept u5.heap.size u5, z.w.cell? ⟨rb, 3, none⟩ = some (.int .i64 t) := fun z => (H5.out.1.old z.h).cell rfl
            refine wp_region_last' u5.heap.size (by kernel_rfl) rfl rfl (by kernel_rfl) (lastOk_of (by kernel_rfl)) ?_
            intro hne
            dsimp only [List.dropLast]
            repeat (go_big_quiet_step (first | fail))
            refine wpQuiet_nil ?_
            rintro u6 ⟨xk, hxk⟩
            have hR6 := xk.h
            rw [← hxk] at hR6
            clear hxk xk hne KT KL
            have H6 : Hid (Blk u6 rb #[.int .i64 0, .slice a4 (xs.length + 1) c4, .int .i64 m, .int .i64 t] 26 ∧ Ol u6 lo (.slice a4 (xs.length + 1) c4) (xs ++ [d]) ∧ Below lo w1 u6) := ⟨H5.out.1.old hR6, H5.out.2.1.later hR6, H5.out.2.2.trans (hR6.mono hl5)⟩
            have z3 := H6.out.1.cell (j := 3) (v := .int .i64 t) rfl
            have zf := H6.out.1.frozen
            clear hR6
            go_wp2
            go_roundw
            case rel =>
              have hne := H6.out.2.1.blkNe H6.out.1 (by decide)
              refine ⟨k + 1, .slice a4 (xs.length + 1) c4, by omega, by simp, by rw [HN.out.1], ?_, ?_, H6.out.2.2.setCell hrw _⟩
              · rw [HN.out.2.1, HN.out.2.2.1, ← HM.out]
                exact H6.out.1.set 3 _ rfl
              · rw [HN.out.2.2.2.1]
                exact H6.out.2.1.keepOn fun g hg => Below.heap_setCell _ _ _ _ (by exact hne g hg)
            case measure => simp [intOf]; omega
          · obtain rfl : n = k := by omega
            have hRr := HR.out
            rw [HZ.out.2.1, HZ.out.2.2.1, HZ.out.2.2.2] at hRr
            obtain ⟨va, vc, ev, -⟩ := hRr.2.1.form
            subst ev
            have s0 := hRr.1.cell (j := 0) (v := .int .i64 0) rfl
            have s1 := hRr.1.cell (j := 1) (v := .slice va (Mt.lvs S start n).length vc) rfl
            have s2 := hRr.1.cell (j := 2) (v := .int .i64 (Mt.ls S start n)) rfl
            have s3 := hRr.1.cell (j := 3) (v := .int .i64 (Mt.tl S n)) rfl
            have r0 := (BX.out.1.old HBw.out.2).cell (j := 0) (v := .int .i64 0) rfl
            have r1 := (BX.out.1.old HBw.out.2).cell (j := 1) (v := .slice none 0 0) rfl
            have r2 := (BX.out.1.old HBw.out.2).cell (j := 2) (v := .int .i64 0) rfl
            have r3 := (BX.out.1.old HBw.out.2).cell (j := 3) (v := .int .i64 0) rfl
            have rf := (BX.out.1.old HBw.out.2).frozen
            have hne : ∀ g, (Value.slice va (Mt.lvs S start n).length vc).ownBlock = some g → g ≠ w.heap.size := hRr.2.1.blkNe (BX.out.1.old HBw.out.2) (by decide)
            have HBR : Hid (Blk ((((wr.setCell ⟨w.heap.size, 0, none⟩ (.int .i64 0)).setCell ⟨w.heap.size, 1, none⟩ (.slice va (Mt.lvs S start n).length vc)).setCell ⟨w.heap.size, 2, none⟩ (.int .i64 (Mt.ls S start n))).setCell ⟨w.heap.size, 3, none⟩ (.int .i64 (Mt.tl S n))) w.heap.size #[.int .i64 0, .slice va (Mt.lvs S start n).length vc, .int .i64 (Mt.ls S start n), .int .i64 (Mt.tl S n)] 26 ∧ Ol ((((wr.setCell ⟨w.heap.size, 0, none⟩ (.int .i64 0)).setCell ⟨w.heap.size, 1, none⟩ (.slice va (Mt.lvs S start n).length vc)).setCell ⟨w.heap.size, 2, none⟩ (.int .i64 (Mt.ls S start n))).setCell ⟨w.heap.size, 3, none⟩ (.int .i64 (Mt.tl S n))) lo (.slice va (Mt.lvs S start n).length vc) (Mt.lvs S start n) ∧ Below w.heap.size w ((((wr.setCell ⟨w.heap.size, 0, none⟩ (.int .i64 0)).setCell ⟨w.heap.size, 1, none⟩ (.slice va (Mt.lvs S start n).length vc)).setCell ⟨w.heap.size, 2, none⟩ (.int .i64 (Mt.ls S start n))).setCell ⟨w.heap.size, 3, none⟩ (.int .i64 (Mt.tl S n)))) := by
              refine ⟨(((((BX.out.1.old HBw.out.2).set 0 _ rfl).set 1 _ rfl).set 2 _ rfl).set 3 _ rfl), hRr.2.1.keepOn fun g hg => ?_, ((((HBw.out.1.setCell (Nat.le_refl _) _).setCell (Nat.le_refl _) _).setCell (Nat.le_refl _) _).setCell (Nat.le_refl _) _)⟩
              have h := hne g hg
              rw [Below.heap_setCell _ _ _ _ (by exact h), Below.heap_setCell _ _ _ _ (by exact h), Below.heap_setCell _ _ _ _ (by exact h), Below.heap_setCell _ _ _ _ (by exact h)]
            clear hne
            go_wp2_with fail
            have q0 := HBR.out.1.cell (j := 0) (v := .int .i64 0) rfl
            have q1 := HBR.out.1.cell (j := 1) (v := .slice va (Mt.lvs S start n).length vc) rfl
            have q2 := HBR.out.1.cell (j := 2) (v := .int .i64 (Mt.ls S start n)) rfl
            have q3 := HBR.out.1.cell (j := 3) (v := .int .i64 (Mt.tl S n)) rfl
            refine bodyPost_ret (v := .agg #[.int .i64 0, .slice va (Mt.lvs S start n).length vc, .int .i64 (Mt.ls S start n), .int .i64 (Mt.tl S n)]) ?_ rfl ⟨_, rfl, OwnI.of (HBR.out.2.1.low (by omega)) (Nat.le_refl _), HBR.out.2.2⟩
            simp [results, Try.results14, go_sem, q0, q1, q2, q3]
end Go.Proofs.Ytelejihgechmgaa
