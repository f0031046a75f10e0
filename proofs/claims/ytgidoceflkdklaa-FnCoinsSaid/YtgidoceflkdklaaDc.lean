/- Seeds, counts and bounds drawn out of bytes; coins drawn in two parts, plainly; the law's own choice and comparison. -/
import Derived.Test.YtgidoceflkdklaaCs
import Derived.Test.YtgidoceflkdklaaArgb
namespace Go.Proofs.Ytgidoceflkdklaa
open Go.RowKit Fl
set_option linter.unusedVariables false
set_option linter.unusedSimpArgs false
theorem cx_more (s : Int) (a : Nat) : ∀ i, cx (cx s a) i = cx s (a + i)
  | 0 => rfl
  | i + 1 => by rw [← Nat.add_assoc]; unfold cx; rw [cx_more s a i]
theorem nexts_of {w0 : World} {v : Value} {n : Nat} {g : Nat → Int} {p : Nat} (hB : RdB w0 v n g) (hg : ∀ i, i < n → 0 ≤ g i ∧ g i ≤ 255) (hn : n ≤ 1000000000000) : Nexts w0 v p := fun w a N hS h1 h2 h3 h4 => next_any hS hB hg hn h1 h2 h3 h4
theorem pick_any {w0 w : World} {v : Value} {a : Int} {p : Nat} (hS : Src w0 w v a p) (NX : Nexts w0 v p) (h0 : 0 ≤ a) (h1 : a ≤ 1000) (b m : Nat) (hm : 1 ≤ m) (hm2 : m ≤ 100) (hb : b ≠ p) (hc : ∀ i, i < m → ∃ x : Int, w.cell? ⟨b, i, none⟩ = some (.int .i64 x)) :
    Calls Try.prog 56 #[.pointer (some ⟨p, 0, none⟩), .slice (some ⟨b, 0, none⟩) m m] w fun e w' => ∃ r : Int, e = .returned (.int .i64 r) ∧ Src w0 w' v (a + 1) p := by
  have C : Hid (Calls Try.prog 57 #[.pointer (some ⟨p, 0, none⟩), .int .i64 m] w fun e w' => ∃ r : Int, e = .returned (.int .i64 r) ∧ 0 ≤ r ∧ r < m ∧ Src w0 w' v (a + 1) p ∧ ∀ b, b ≠ p → w'.heap[b]? = w.heap[b]?) := NX w a m hS h0 h1 (by omega) (by omega)
  have HC : Hid (∀ i, i < m → ∃ x : Int, w.cell? ⟨b, i, none⟩ = some (.int .i64 x)) := hc
  clear hS NX hc
  go_enter Try.func56, Try.ntmps56
  go_wp2_with fail
  refine C.out.mono ?_
  rintro e w1 ⟨r, rfl, r0, r1, hS, hk⟩
  obtain ⟨i, rfl⟩ := Int.eq_ofNat_of_zero_le r0
  obtain ⟨x, hx⟩ := HC.out i (by omega)
  have hx1 : w1.cell? ⟨b, i, none⟩ = some (.int .i64 x) := by
    simp only [World.cell?] at hx ⊢
    rw [hk b hb]
    exact hx
  have HS : Hid (Src w0 w1 v (a + 1) p) := hS
  clear hS hk hx C HC
  go_wp2
  go_ret
  exact ⟨x, rfl, HS.out⟩
theorem Src.lt {w0 w : World} {v : Value} {a : Int} {p : Nat} (h : Src w0 w v a p) : p < w.heap.size := World.block_lt_of_cell? _ _ h.code
set_option maxRecDepth 20000 in
set_option maxHeartbeats 3200000 in
theorem seed_any {w0 w : World} {v : Value} {a : Int} {p : Nat} (hS : Src w0 w v a p) (NX : Nexts w0 v p) (h0 : 0 ≤ a) (h1 : a ≤ 900) :
    Calls Try.prog 55 #[.pointer (some ⟨p, 0, none⟩)] w fun e w' => ∃ r : Int, e = .returned (.int .i64 r) ∧ Src w0 w' v (a + 4) p := by
  have N : Hid (Nexts w0 v p) := NX
  have HS : Hid (Src w0 w v a p) := hS
  clear NX hS
  go_enter Try.func55, Try.ntmps55
  go_wp2_with fail
  refine (N.out _ _ 100000 HS.out (by omega) (by omega) (by omega) (by omega)).mono ?_
  rintro e w1 ⟨r1, rfl, p0, p1, hS1, -⟩
  replace hS1 : Hid _ := hS1
  clear HS
  go_wp2_with fail
  refine (N.out _ _ 7 hS1.out (by omega) (by omega) (by omega) (by omega)).mono ?_
  rintro e w2 ⟨r2, rfl, q0, q1, hS2, -⟩
  replace hS2 : Hid _ := hS2
  clear hS1
  go_wp2_with fail
  refine (N.out _ _ 70000 hS2.out (by omega) (by omega) (by omega) (by omega)).mono ?_
  rintro e w3 ⟨r3, rfl, t0, t1, hS3, -⟩
  replace hS3 : Hid (Src w0 w3 v (a + 1 + 1 + 1) p) := hS3
  clear hS2
  go_wp2_with fail
  refine (pick_any (a := a + 1 + 1 + 1) (hS3.out.alloc _) N.out (by omega) (by omega) w3.heap.size 7 (by omega) (by omega) (by have := hS3.out.lt; omega) ?_).mono ?_
  · intro i hi
    have : i = 0 ∨ i = 1 ∨ i = 2 ∨ i = 3 ∨ i = 4 ∨ i = 5 ∨ i = 6 := by omega
    rcases this with rfl | rfl | rfl | rfl | rfl | rfl | rfl <;> exact ⟨_, Blk.cell (Blk.new rfl) rfl⟩
  rintro e w4 ⟨r, rfl, hS4⟩
  replace hS4 : Hid (Src w0 w4 v (a + 1 + 1 + 1 + 1) p) := hS4
  clear hS3 N
  go_wp2
  go_ret
  exact ⟨r, rfl, by have := hS4.out; rw [show a + 4 = a + 1 + 1 + 1 + 1 by omega]; exact this⟩
set_option maxRecDepth 20000 in
set_option maxHeartbeats 3200000 in
theorem draw_any {w : World} {v : Value} {n : Nat} {g : Nat → Int} (hB : RdB w v n g) (hg : ∀ i, i < n → 0 ≤ g i ∧ g i ≤ 255) (hn : n ≤ 1000000000000) :
    Calls Try.prog 14 #[v] w fun e w' => ∃ s k m : Int, e = .returned (.tuple #[.int .i64 s, .int .i64 k, .int .i64 m]) ∧ Below w.heap.size w w' := by
  have N : Hid (∀ p, Nexts w v p) := fun p => nexts_of hB hg hn
  obtain ⟨ao, cap, rfl⟩ : ∃ ao cap, v = .slice ao n cap := by
    rcases hB with ⟨ao, cap, rfl, rfl⟩ | ⟨b, off, cap, rfl, _⟩
    · exact ⟨_, _, rfl⟩
    · exact ⟨_, _, rfl⟩
  clear hB hg
  go_enter Try.func14, Try.ntmps14
  go_wp2_with fail
  refine (source_any ao n cap w).mono ?_
  rintro e w0 ⟨rfl, rfl⟩
  have S0 : Hid (Src w (w.alloc (.cells #[.slice ao n cap, .int .i64 0] 89)) (.slice ao n cap) 0 w.heap.size) := src_new w _
  obtain ⟨u0, hu0⟩ : ∃ W, W = w.alloc (.cells #[.slice ao n cap, .int .i64 0] 89) := ⟨_, rfl⟩
  rw [← hu0] at S0 ⊢
  clear hu0
  go_wp2_with fail
  refine (seed_any S0.out (N.out _) (by omega) (by omega)).mono ?_
  rintro e w1 ⟨s, rfl, hS1⟩
  replace hS1 : Hid (Src w w1 (.slice ao n cap) (0 + 4) w.heap.size) := hS1
  clear S0
  go_wp2_with fail
  refine (N.out _ _ _ 12 hS1.out (by omega) (by omega) (by omega) (by omega)).mono ?_
  rintro e w2 ⟨r2, rfl, q0, q1, hS2, -⟩
  replace hS2 : Hid _ := hS2
  clear hS1
  go_wp2_with fail
  refine (N.out _ _ _ 12 hS2.out (by omega) (by omega) (by omega) (by omega)).mono ?_
  rintro e w3 ⟨r3, rfl, t0, t1, hS3, -⟩
  replace hS3 : Hid (Src w w3 (.slice ao n cap) (0 + 4 + 1 + 1) w.heap.size) := hS3
  clear hS2
  go_wp2_with fail
  refine (pick_any (a := 0 + 4 + 1 + 1) (hS3.out.alloc _) (N.out _) (by omega) (by omega) w3.heap.size 6 (by omega) (by omega) (by have := hS3.out.lt; omega) ?_).mono ?_
  · intro i hi
    have : i = 0 ∨ i = 1 ∨ i = 2 ∨ i = 3 ∨ i = 4 ∨ i = 5 := by omega
    rcases this with rfl | rfl | rfl | rfl | rfl | rfl <;> exact ⟨_, Blk.cell (Blk.new rfl) rfl⟩
  rintro e w4 ⟨k, rfl, hS4⟩
  replace hS4 : Hid (Src w w4 (.slice ao n cap) (0 + 4 + 1 + 1 + 1) w.heap.size) := hS4
  clear hS3
  go_wp2_with fail
  refine (N.out _ _ _ 90 hS4.out (by omega) (by omega) (by omega) (by omega)).mono ?_
  rintro e w5 ⟨r5, rfl, y0, y1, hS5, -⟩
  replace hS5 : Hid (Src w w5 (.slice ao n cap) (0 + 4 + 1 + 1 + 1 + 1) w.heap.size) := hS5
  clear hS4
  go_wp2_with fail
  refine (pick_any (a := 0 + 4 + 1 + 1 + 1 + 1) (hS5.out.alloc _) (N.out _) (by omega) (by omega) w5.heap.size 6 (by omega) (by omega) (by have := hS5.out.lt; omega) ?_).mono ?_
  · intro i hi
    have : i = 0 ∨ i = 1 ∨ i = 2 ∨ i = 3 ∨ i = 4 ∨ i = 5 := by omega
    rcases this with rfl | rfl | rfl | rfl | rfl | rfl <;> exact ⟨_, Blk.cell (Blk.new rfl) rfl⟩
  rintro e w6 ⟨m, rfl, hS6⟩
  have HB : Hid (Below w.heap.size w w6) := hS6.below
  clear hS6 hS5 N
  go_wp2
  exact bodyPost_ret (v := .tuple #[.int .i64 s, .int .i64 k, .int .i64 m]) (by simp [results, Try.results14, go_sem]) rfl ⟨s, k, m, rfl, HB.out⟩
set_option maxHeartbeats 1600000 in
theorem at_one (ao : Option Addr) (n cap : Nat) (N : Int) (w : World) (hN : N ≤ 1) : Calls Try.prog 17 #[.slice ao n cap, .int .i64 4, .int .i64 N] w fun e w' => ∃ r : Int, e = .returned (.int .i64 r) ∧ 0 ≤ r ∧ (1 ≤ N → r < N) ∧ ∃ q, w' = w.drewN q := by
  go_enter Try.func17, Try.ntmps17
  go_wp2
  go_ret
  exact ⟨0, rfl, by omega, by omega, 0, rfl⟩
set_option maxHeartbeats 1600000 in
theorem at_none (ao : Option Addr) (cap : Nat) (N : Int) (w : World) (hN : 1 < N) : Calls Try.prog 17 #[.slice ao 0 cap, .int .i64 4, .int .i64 N] w fun e w' => ∃ r : Int, e = .returned (.int .i64 r) ∧ 0 ≤ r ∧ (1 ≤ N → r < N) ∧ ∃ q, w' = w.drewN q := by
  have hr := tmod_fits (x := 28) (N := N) (by omega) (by omega)
  obtain ⟨t, ht⟩ : ∃ t, t = (28 : Int).tmod N := ⟨_, rfl⟩
  rw [← ht] at hr
  have ht' := ht.symm
  have hN1 : ¬ N ≤ 1 := by omega
  have hN0 : N ≠ 0 := by omega
  clear ht
  go_enter Try.func17, Try.ntmps17
  go_wp2
  go_ret
  exact ⟨t, rfl, hr.1, fun _ => hr.2, 0, rfl⟩
set_option maxHeartbeats 1600000 in
theorem at_short (b off n cap : Nat) (x q N : Int) (i : Nat) (w : World) (h1 : 1 < N) (h2 : N ≤ 200) (hn : 0 < n) (hn2 : n ≤ 1000000000000) (hi : i < n) (hr : (4 : Int).tmod (n : Int) = (i : Int)) (hq : (4 : Int).tdiv (n : Int) = q) (q0 : 0 ≤ q) (q1 : q ≤ 4) (x0 : 0 ≤ x) (x1 : x ≤ 255)
    (hx : w.cell? ⟨b, off + i, none⟩ = some (.int .u8 x)) :
    Calls Try.prog 17 #[.slice (some ⟨b, off, none⟩) n cap, .int .i64 4, .int .i64 N] w fun e w' => ∃ r : Int, e = .returned (.int .i64 r) ∧ 0 ≤ r ∧ (1 ≤ N → r < N) ∧ ∃ q, w' = w.drewN q := by
  have ht := tmod_fits (x := x + q * 3) (N := N) (by omega) (by omega)
  obtain ⟨t, ht'⟩ : ∃ t, (x + q * 3).tmod N = t := ⟨_, rfl⟩
  rw [ht'] at ht
  have n0 : ¬ (n : Int) = 0 := by omega
  have hN1 : ¬ N ≤ 1 := by omega
  have hN0 : N ≠ 0 := by omega
  go_enter Try.func17, Try.ntmps17
  go_wp2
  go_quiet (fail)
  go_wp2
  go_ret
  exact ⟨t, rfl, ht.1, fun _ => ht.2, nq, rfl⟩
set_option maxHeartbeats 1600000 in
theorem at_long (b off n cap : Nat) (x y q N : Int) (i j : Nat) (w : World) (h1 : 200 < N) (h2 : N ≤ 1000000) (hn : 0 < n) (hn2 : n ≤ 1000000000000) (hi : i < n) (hj : j < n) (hr : (4 : Int).tmod (n : Int) = (i : Int)) (hr2 : (5 : Int).tmod (n : Int) = (j : Int)) (hq : (4 : Int).tdiv (n : Int) = q) (q0 : 0 ≤ q) (q1 : q ≤ 4) (x0 : 0 ≤ x) (x1 : x ≤ 255) (y0 : 0 ≤ y) (y1 : y ≤ 255)
    (hx : w.cell? ⟨b, off + i, none⟩ = some (.int .u8 x)) (hy : w.cell? ⟨b, off + j, none⟩ = some (.int .u8 y)) :
    Calls Try.prog 17 #[.slice (some ⟨b, off, none⟩) n cap, .int .i64 4, .int .i64 N] w fun e w' => ∃ r : Int, e = .returned (.int .i64 r) ∧ 0 ≤ r ∧ (1 ≤ N → r < N) ∧ ∃ q, w' = w.drewN q := by
  have ht := tmod_fits (x := (x + q * 3) * 251 + y) (N := N) (by omega) (by omega)
  obtain ⟨t, ht'⟩ : ∃ t, ((x + q * 3) * 251 + y).tmod N = t := ⟨_, rfl⟩
  rw [ht'] at ht
  have n0 : ¬ (n : Int) = 0 := by omega
  have hN1 : ¬ N ≤ 1 := by omega
  have hN0 : N ≠ 0 := by omega
  go_enter Try.func17, Try.ntmps17
  go_wp2
  go_quiet (fail)
  go_wp2
  go_ret
  exact ⟨t, rfl, ht.1, fun _ => ht.2, nq, rfl⟩
theorem at_any {w0 w : World} {v : Value} {n : Nat} {g : Nat → Int} {N : Int} (hb : Below w0.heap.size w0 w) (hB : RdB w0 v n g) (hg : ∀ i, i < n → 0 ≤ g i ∧ g i ≤ 255) (hn : n ≤ 1000000000000) (hN : N ≤ 1000000) :
    Calls Try.prog 17 #[v, .int .i64 4, .int .i64 N] w fun e w' => ∃ r : Int, e = .returned (.int .i64 r) ∧ 0 ≤ r ∧ (1 ≤ N → r < N) ∧ ∃ q, w' = w.drewN q := by
  by_cases h1 : N ≤ 1
  · obtain ⟨ao, cap, rfl⟩ : ∃ ao cap, v = .slice ao n cap := by
      rcases hB with ⟨ao, cap, rfl, rfl⟩ | ⟨b, off, cap, rfl, _⟩
      · exact ⟨_, _, rfl⟩
      · exact ⟨_, _, rfl⟩
    exact at_one ao n cap N w h1
  rcases hB with ⟨ao, cap, rfl, rfl⟩ | ⟨b, off, cap, rfl, hc⟩
  · exact at_none ao cap N w (by omega)
  · by_cases h0 : n = 0
    · subst h0
      exact at_none _ cap N w (by omega)
    · obtain ⟨i, hi, hr⟩ := rem_nat (a := 4) (n := n) (by omega) (by omega)
      obtain ⟨j, hj, hr2⟩ := rem_nat (a := 5) (n := n) (by omega) (by omega)
      obtain ⟨q, q0, q1, hq⟩ := quo_nat (a := 4) (n := n) (by omega) (by omega)
      by_cases h2 : N ≤ 200
      · exact at_short b off n cap (g i) q N i w (by omega) h2 (by omega) hn hi hr hq q0 q1 (hg i hi).1 (hg i hi).2 (RdB.cells hb hc i hi)
      · exact at_long b off n cap (g i) (g j) q N i j w (by omega) hN (by omega) hn hi hj hr hr2 hq q0 q1 (hg i hi).1 (hg i hi).2 (hg j hj).1 (hg j hj).2 (RdB.cells hb hc i hi) (RdB.cells hb hc j hj)
set_option maxHeartbeats 1600000 in
theorem nums_some (b off cap b' off' cap' n : Nat) (f : Nat → Int) (w : World) (hn : n ≤ 1000000000000)
    (hc : ∀ i, i < n → w.cell? ⟨b, off + i, none⟩ = some (.int .i64 (f i))) (hc' : ∀ i, i < n → w.cell? ⟨b', off' + i, none⟩ = some (.int .i64 (f i))) :
    Calls Try.prog 18 #[.slice (some ⟨b, off, none⟩) n cap, .slice (some ⟨b', off', none⟩) n cap'] w fun e w' => e = .returned (.bool true) ∧ ∃ q, w' = w.drewN q := by
  go_enter Try.func18, Try.ntmps18
  go_wp2_with fail
  go_loopw [5] (fun i wr => ∃ k q : Nat, k ≤ n ∧ i = .int .i64 k ∧ wr = w.drewN q) (fun i _ => n - (intOf i).toNat)
  case atStart => exact ⟨0, 0, Nat.zero_le _, rfl, rfl⟩
  case round =>
    obtain ⟨k, q, hk, rfl, hq⟩ := hrel
    by_cases hkn : k < n
    · have g1 : wr.cell? ⟨b, off + k, none⟩ = some (.int .i64 (f k)) := by rw [hq]; exact hc k hkn
      have g2 : wr.cell? ⟨b', off' + k, none⟩ = some (.int .i64 (f k)) := by rw [hq]; exact hc' k hkn
      have HQ : Hid (wr = w.drewN q) := hq
      clear hq hc hc'
      go_wp2
      go_quiet (fail)
      go_wp2
      go_roundw
      case rel => exact ⟨k + 1, q + nq, by omega, by simp, by rw [HQ.out, World.drewN_drewN]⟩
      case measure => simp [intOf]; omega
    · obtain rfl : k = n := by omega
      clear hc hc'
      subst hq
      go_wp2
      go_ret
      exact ⟨rfl, q, rfl⟩
theorem nums_none (ao ao' : Option Addr) (cap cap' : Nat) (w : World) :
    Calls Try.prog 18 #[.slice ao 0 cap, .slice ao' 0 cap'] w fun e w' => e = .returned (.bool true) ∧ ∃ q, w' = w.drewN q := by
  go_enter Try.func18, Try.ntmps18
  go_wp2_with fail
  refine wp_loop_rounds 1 ?_
  rw [rounds_succ]
  go_wp2
  go_ret
  exact ⟨rfl, 0, rfl⟩
theorem nums_any {w : World} {v v' : Value} {n : Nat} {f : Nat → Int} (h : RdRow w v n f) (h' : RdRow w v' n f) (hn : n ≤ 1000000000000) :
    Calls Try.prog 18 #[v, v'] w fun e w' => e = .returned (.bool true) ∧ ∃ q, w' = w.drewN q := by
  rcases h with ⟨ao, cap, rfl, rfl⟩ | ⟨b, off, cap, rfl, hc⟩
  · rcases h' with ⟨ao', cap', rfl, _⟩ | ⟨b', off', cap', rfl, hc'⟩
    · exact nums_none _ _ _ _ w
    · exact nums_none _ _ _ _ w
  · rcases h' with ⟨ao', cap', rfl, rfl⟩ | ⟨b', off', cap', rfl, hc'⟩
    · exact nums_none _ _ _ _ w
    · exact nums_some b off cap b' off' cap' n f w hn hc hc'
end Go.Proofs.Ytgidoceflkdklaa
