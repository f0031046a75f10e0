/- Whatever the bytes: coins that are drawn in two parts are those drawn at once, each is within its bound, and so is the seed behind them, where the law's own bound on the length of the bytes does not answer first; nothing that was there is changed. -/
import Derived.Test.YtgidoceflkdklaaDd
import Derived.Handy
import Derived.Deep.RegionHeld3
import Derived.Deep.DeepCutAuto
namespace Go.Proofs.Ytgidoceflkdklaa.LawCoinsX
open Go.ChangeShapes Go.WideShapes Go.ChangeAt Go.RowKit Go.Joins Fl
set_option linter.unusedVariables false

theorem own_zero {u : World} {B A : Nat} {v : Value} {f g : Nat → Int} (h : u.ownsRow B 2 1 v (0 + A) (il (fun i => if i < 0 then f i else g (i - 0)) (0 + A))) : u.ownsRow B 2 1 v A (il g A) := by
  rw [Nat.zero_add] at h
  simpa using h
theorem own_all {u : World} {B A D N : Nat} {v : Value} {f g F : Nat → Int} (h : u.ownsRow B 2 1 v (A + D) (il (fun i => if i < A then f i else g (i - A)) (A + D))) (e : A + D = N) (k : ∀ i, i < N → (if i < A then f i else g (i - A)) = F i) : OwS 2 B u.heap.size u v N (fun i => .int .i64 (F i)) := by
  rw [e] at h
  exact (owned_il h).congr fun i hi => by rw [k i hi]
theorem OwS.seg {t : TypeId} {lo hi : Nat} {w : World} {b c n : Nat} {F : Nat → Value} (h : OwS t lo hi w (.slice (some ⟨b, 0, none⟩) n c) n F) : Seg w b t 0 n F ∧ lo ≤ b ∧ b < hi := by
  rcases h with ⟨e, _⟩ | ⟨g, cap, e, h1, h2, h3⟩
  · cases e
  · simp only [Value.slice.injEq, Option.some.injEq, Addr.mk.injEq] at e
    obtain ⟨⟨rfl, _⟩, _, _⟩ := e
    exact ⟨h3, h1, h2⟩
theorem at_b {w0 w : World} {v : Value} {n : Nat} {g : Nat → Int} {N : Int} (hb : Below w0.heap.size w0 w) (hB : RdB w0 v n g) (hg : ∀ i, i < n → 0 ≤ g i ∧ g i ≤ 255) (hn : n ≤ 1000000000000) (hN : N ≤ 1000000) :
    Calls Try.prog 17 #[v, .int .i64 4, .int .i64 N] w fun e w' => ∃ r : Int, e = .returned (.int .i64 r) ∧ 0 ≤ r ∧ (1 ≤ N → r < N) ∧ Below w.heap.size w w' := by
  refine (at_any hb hB hg hn hN).mono ?_
  rintro e w' ⟨r, h1, h2, h3, q, rfl⟩
  exact ⟨r, h1, h2, h3, below_drewN (Below.refl _ _) q⟩
set_option maxRecDepth 100000 in
set_option maxHeartbeats 12800000 in
theorem walk {w : World} {v : Value} {nb : Nat} {g : Nat → Int} (h : RdB w v nb g) (hn : nb ≤ 9223372036854775807) (hg : ∀ i, i < nb → 0 ≤ g i ∧ g i ≤ 255) :
    Calls Try.prog 3 #[v] w fun e w' => e = .returned (.bool true) ∧ Below w.heap.size w w' := by
  obtain ⟨ao, cap, rfl⟩ : ∃ ao cap, v = .slice ao nb cap := by
    rcases h with ⟨ao, cap, rfl, rfl⟩ | ⟨b, off, cap, rfl, _⟩
    · exact ⟨_, _, rfl⟩
    · exact ⟨_, _, rfl⟩
  have HG : Hid (RdB w (.slice ao nb cap) nb g ∧ ∀ i, i < nb → 0 ≤ g i ∧ g i ≤ 255) := ⟨h, hg⟩
  clear h hg
  have BG : Hid (∀ w, Calls Try.prog 13 #[.slice ao nb cap] w fun e w' => e = .returned (.bool (decide ((1048576 : Int) < (nb : Int)))) ∧ w = w') := fun w => big_any ao nb cap w
  go_enter Try.func3, Try.ntmps3
  by_cases hb : 1048576 < nb
  · rw [show decide ((1048576 : Int) < (nb : Int)) = true by simp; omega] at BG
    go_wp2_with (first | (go_at_call 13; refine (BG.out _).mono ?_; rintro e w1 ⟨rfl, rfl⟩))
    go_ret
    exact ⟨rfl, Below.refl _ _⟩
  rw [show decide ((1048576 : Int) < (nb : Int)) = false by simp; omega] at BG
  have hn2 : nb ≤ 1000000000000 := by omega
  have HO : Hid (Below w.heap.size w w) := Below.refl _ _
  go_wp2_with fail
  refine (BG.out _).mono ?_
  rintro e wx ⟨rfl, rfl⟩
  clear BG
  go_wp2_with fail
  refine (draw_any HG.out.1 HG.out.2 hn2).mono ?_
  rintro e w1 ⟨s, k, m, rfl, b⟩
  have Z1 : Hid (w.heap.size ≤ w1.heap.size) := b.size
  replace HO : Hid (Below w.heap.size w w1) := HO.out.trans (b.mono HO.out.size)
  clear b
  by_cases hk : Ck s k m
  · skip
    obtain ⟨N, rfl⟩ := Int.eq_ofNat_of_zero_le hk.n0
    have hN0 := hk.n1
    obtain ⟨SN, hSN⟩ : ∃ S, S = cx s N := ⟨_, rfl⟩
    have SC : Hid (∀ W, FX 15 #[.int .i64 s, .int .i64 N, .int .i64 m] W 0 N (fun i => cx s (i + 1) % m) SN) := fun W => by rw [hSN]; exact sCoins_good s m N hk W
    have IC : Hid (∀ W, Calls Try.prog 16 #[.int .i64 s, .int .i64 N, .int .i64 m] W fun e w' => ∃ g, e = .returned (Fx 0 (.slice (some ⟨g, 0, none⟩) N N) SN) ∧ W.heap.size ≤ g ∧ g < w'.heap.size ∧ Seg w' g 2 0 N (fun i => .int .i64 (cx s (i + 1) % m)) ∧ Below W.heap.size W w') := fun W => by rw [hSN]; exact iCoins_some s m N hk W
    have HK : Hid (Ck s N m ∧ SN = cx s N) := ⟨hk, hSN⟩
    clear hk hSN
    go_wp2_with fail
    refine (SC.out _).mono ?_
    rintro e w2 ⟨vs, rfl, os, b⟩
    obtain ⟨sao, scap, rfl⟩ := os.form
    have OS : Hid (OwS 2 w1.heap.size w2.heap.size w2 (.slice sao N scap) N (fun i => .int .i64 (cx s (i + 1) % m))) := os
    clear os
    have Z2 : Hid (w1.heap.size ≤ w2.heap.size) := b.size
    replace HO : Hid (Below w.heap.size w w2) := HO.out.trans (b.mono HO.out.size)
    clear b
    go_upto_region 5 with fail
    obtain ⟨w3, hwd⟩ : ∃ W, W = w2.alloc (.cells #[.int .i64 0, .slice sao N scap, .int .i64 SN] 28) := ⟨_, rfl⟩
    have BS : Hid (Blk w3 w2.heap.size #[.int .i64 0, .slice sao N scap, .int .i64 SN] 28) := by show Blk _ _ _ _; rw [hwd]; exact Blk.new rfl
    have b : Below w2.heap.size w2 w3 := by rw [hwd]; exact (Below.refl _ _).alloc (Nat.le_refl _) _
    have Y3 : Hid (w2.heap.size + 1 ≤ w3.heap.size) := by show _ ≤ _; rw [hwd]; simp
    rw [← hwd]
    clear hwd
    replace OS : Hid (OwS 2 w1.heap.size w2.heap.size w3 (.slice sao N scap) N (fun i => .int .i64 (cx s (i + 1) % m))) := OS.out.later b
    have Z3 : Hid (w2.heap.size ≤ w3.heap.size) := b.size
    replace HO : Hid (Below w.heap.size w w3) := HO.out.trans (b.mono HO.out.size)
    clear b
    go_wp2_with fail
    refine (IC.out _).mono ?_
    rintro e w4 ⟨gc, rfl, l1, l2, sg, b⟩
    have OC : Hid (OwS 2 w3.heap.size w4.heap.size w4 (.slice (some ⟨gc, 0, none⟩) N N) N (fun i => .int .i64 (cx s (i + 1) % m))) := Or.inr ⟨_, _, rfl, l1, l2, sg⟩
    clear l1 l2 sg
    replace OS : Hid (OwS 2 w1.heap.size w2.heap.size w4 (.slice sao N scap) N (fun i => .int .i64 (cx s (i + 1) % m))) := OS.out.later b
    replace BS : Hid (Blk w4 w2.heap.size #[.int .i64 0, .slice sao N scap, .int .i64 SN] 28) := BS.out.later b
    have Z4 : Hid (w3.heap.size ≤ w4.heap.size) := b.size
    replace HO : Hid (Below w.heap.size w w4) := HO.out.trans (b.mono HO.out.size)
    clear b
    go_upto_region 6 with fail
    obtain ⟨w5, hwd⟩ : ∃ W, W = w4.alloc (.cells #[.int .i64 0, .slice (some ⟨gc, 0, none⟩) N N, .int .i64 SN] 28) := ⟨_, rfl⟩
    have BC : Hid (Blk w5 w4.heap.size #[.int .i64 0, .slice (some ⟨gc, 0, none⟩) N N, .int .i64 SN] 28) := by show Blk _ _ _ _; rw [hwd]; exact Blk.new rfl
    have b : Below w4.heap.size w4 w5 := by rw [hwd]; exact (Below.refl _ _).alloc (Nat.le_refl _) _
    have Y5 : Hid (w4.heap.size + 1 ≤ w5.heap.size) := by show _ ≤ _; rw [hwd]; simp
    rw [← hwd]
    clear hwd
    replace OS : Hid (OwS 2 w1.heap.size w2.heap.size w5 (.slice sao N scap) N (fun i => .int .i64 (cx s (i + 1) % m))) := OS.out.later b
    replace BS : Hid (Blk w5 w2.heap.size #[.int .i64 0, .slice sao N scap, .int .i64 SN] 28) := BS.out.later b
    replace OC : Hid (OwS 2 w3.heap.size w4.heap.size w5 (.slice (some ⟨gc, 0, none⟩) N N) N (fun i => .int .i64 (cx s (i + 1) % m))) := OC.out.later b
    have Z5 : Hid (w4.heap.size ≤ w5.heap.size) := b.size
    replace HO : Hid (Below w.heap.size w w5) := HO.out.trans (b.mono HO.out.size)
    clear b
    by_cases h200 : 200 < N
    · skip
      have cs := BS.out.cell (j := 0) (v := .int .i64 0) rfl
      have cg := BC.out.cell (j := 0) (v := .int .i64 0) rfl
      have h2I : (200 : Int) < N := by omega
      go_wp2
      go_ret
      exact ⟨rfl, HO.out⟩
    have h2I : ¬ (200 : Int) < N := by omega
    have cs := BS.out.cell (j := 0) (v := .int .i64 0) rfl
    have hN1 : (N : Int) + 1 ≤ 1000000 := by omega
    clear SC IC
    go_wp2_with fail
    refine (at_b HO.out HG.out.1 HG.out.2 hn2 hN1).mono ?_
    rintro e w6 ⟨r, rfl, r0, r1, b⟩
    replace OS : Hid (OwS 2 w1.heap.size w2.heap.size w6 (.slice sao N scap) N (fun i => .int .i64 (cx s (i + 1) % m))) := OS.out.later b
    replace BS : Hid (Blk w6 w2.heap.size #[.int .i64 0, .slice sao N scap, .int .i64 SN] 28) := BS.out.later b
    replace OC : Hid (OwS 2 w3.heap.size w4.heap.size w6 (.slice (some ⟨gc, 0, none⟩) N N) N (fun i => .int .i64 (cx s (i + 1) % m))) := OC.out.later b
    replace BC : Hid (Blk w6 w4.heap.size #[.int .i64 0, .slice (some ⟨gc, 0, none⟩) N N, .int .i64 SN] 28) := BC.out.later b
    have Z6 : Hid (w5.heap.size ≤ w6.heap.size) := b.size
    replace HO : Hid (Below w.heap.size w w6) := HO.out.trans (b.mono HO.out.size)
    clear b
    clear cs
    clear OS
    clear BS
    obtain ⟨A, rfl⟩ := Int.eq_ofNat_of_zero_le r0
    have hAN : A ≤ N := by have := r1 (by omega); omega
    clear r0 r1
    obtain ⟨SA, hSA⟩ : ∃ S, S = cx s A := ⟨_, rfl⟩
    obtain ⟨D, hD⟩ : ∃ D : Nat, D = N - A := ⟨_, rfl⟩
    have hDI : (N : Int) - (A : Int) = (D : Int) := by omega
    have kA : Ck s A m := ⟨by omega, by omega, HK.out.1.m0, HK.out.1.m1, HK.out.1.s0, HK.out.1.s1⟩
    have kB : Ck SA D m := by obtain ⟨c1, c2⟩ := cx_bd HK.out.1.s0 HK.out.1.s1 A; exact ⟨by omega, by omega, HK.out.1.m0, HK.out.1.m1, by rw [hSA]; exact c1, by rw [hSA]; exact c2⟩
    have eN : cx SA D = SN := by rw [hSA, cx_more, HK.out.2]; congr 1; omega
    have CA : Hid (∀ W, Calls Try.prog 16 #[.int .i64 s, .int .i64 A, .int .i64 m] W fun e w' => ∃ g, e = .returned (Fx 0 (.slice (some ⟨g, 0, none⟩) A A) SA) ∧ W.heap.size ≤ g ∧ g < w'.heap.size ∧ Seg w' g 2 0 A (fun i => .int .i64 (cx s (i + 1) % m)) ∧ Below W.heap.size W w') := fun W => by rw [hSA]; exact iCoins_some s m A kA W
    have CB : Hid (∀ W, Calls Try.prog 16 #[.int .i64 SA, .int .i64 D, .int .i64 m] W fun e w' => ∃ g, e = .returned (Fx 0 (.slice (some ⟨g, 0, none⟩) D D) SN) ∧ W.heap.size ≤ g ∧ g < w'.heap.size ∧ Seg w' g 2 0 D (fun i => .int .i64 (cx SA (i + 1) % m)) ∧ Below W.heap.size W w') := fun W => by rw [← eN]; exact iCoins_some SA m D kB W
    have HS2 : Hid (∀ i, i < N → (if i < A then cx s (i + 1) % m else cx SA (i - A + 1) % m) = cx s (i + 1) % m) := fun i hi => by
      by_cases e : i < A
      · rw [if_pos e]
      · rw [if_neg e, hSA, cx_more]; congr 2; omega
    have hAD : Hid (A + D = N) := by show A + D = N; omega
    have hADb : A + D ≤ 1000 := by omega
    clear kA kB eN hSA hD
    go_wp2_with fail
    refine (CA.out _).mono ?_
    rintro e w7 ⟨ga, rfl, l1, l2, sg, b⟩
    have OA : Hid (OwS 2 w6.heap.size w7.heap.size w7 (.slice (some ⟨ga, 0, none⟩) A A) A (fun i => .int .i64 (cx s (i + 1) % m))) := Or.inr ⟨_, _, rfl, l1, l2, sg⟩
    clear l1 l2 sg
    replace OC : Hid (OwS 2 w3.heap.size w4.heap.size w7 (.slice (some ⟨gc, 0, none⟩) N N) N (fun i => .int .i64 (cx s (i + 1) % m))) := OC.out.later b
    replace BC : Hid (Blk w7 w4.heap.size #[.int .i64 0, .slice (some ⟨gc, 0, none⟩) N N, .int .i64 SN] 28) := BC.out.later b
    have Z7 : Hid (w6.heap.size ≤ w7.heap.size) := b.size
    replace HO : Hid (Below w.heap.size w w7) := HO.out.trans (b.mono HO.out.size)
    clear b
    go_upto_region 10 with fail
    obtain ⟨w8, hwd⟩ : ∃ W, W = w7.alloc (.cells #[.int .i64 0, .slice (some ⟨ga, 0, none⟩) A A, .int .i64 SA] 28) := ⟨_, rfl⟩
    have BA : Hid (Blk w8 w7.heap.size #[.int .i64 0, .slice (some ⟨ga, 0, none⟩) A A, .int .i64 SA] 28) := by show Blk _ _ _ _; rw [hwd]; exact Blk.new rfl
    have b : Below w7.heap.size w7 w8 := by rw [hwd]; exact (Below.refl _ _).alloc (Nat.le_refl _) _
    have Y8 : Hid (w7.heap.size + 1 ≤ w8.heap.size) := by show _ ≤ _; rw [hwd]; simp
    rw [← hwd]
    clear hwd
    replace OC : Hid (OwS 2 w3.heap.size w4.heap.size w8 (.slice (some ⟨gc, 0, none⟩) N N) N (fun i => .int .i64 (cx s (i + 1) % m))) := OC.out.later b
    replace BC : Hid (Blk w8 w4.heap.size #[.int .i64 0, .slice (some ⟨gc, 0, none⟩) N N, .int .i64 SN] 28) := BC.out.later b
    replace OA : Hid (OwS 2 w6.heap.size w7.heap.size w8 (.slice (some ⟨ga, 0, none⟩) A A) A (fun i => .int .i64 (cx s (i + 1) % m))) := OA.out.later b
    have Z8 : Hid (w7.heap.size ≤ w8.heap.size) := b.size
    replace HO : Hid (Below w.heap.size w w8) := HO.out.trans (b.mono HO.out.size)
    clear b
    have ca2 := BA.out.cell (j := 2) (v := .int .i64 SA) rfl
    go_wp2_with fail
    refine (CB.out _).mono ?_
    rintro e w9 ⟨gb, rfl, l1, l2, sg, b⟩
    have OB : Hid (OwS 2 w8.heap.size w9.heap.size w9 (.slice (some ⟨gb, 0, none⟩) D D) D (fun i => .int .i64 (cx SA (i + 1) % m))) := Or.inr ⟨_, _, rfl, l1, l2, sg⟩
    clear l1 l2 sg
    replace OC : Hid (OwS 2 w3.heap.size w4.heap.size w9 (.slice (some ⟨gc, 0, none⟩) N N) N (fun i => .int .i64 (cx s (i + 1) % m))) := OC.out.later b
    replace BC : Hid (Blk w9 w4.heap.size #[.int .i64 0, .slice (some ⟨gc, 0, none⟩) N N, .int .i64 SN] 28) := BC.out.later b
    replace OA : Hid (OwS 2 w6.heap.size w7.heap.size w9 (.slice (some ⟨ga, 0, none⟩) A A) A (fun i => .int .i64 (cx s (i + 1) % m))) := OA.out.later b
    replace BA : Hid (Blk w9 w7.heap.size #[.int .i64 0, .slice (some ⟨ga, 0, none⟩) A A, .int .i64 SA] 28) := BA.out.later b
    have Z9 : Hid (w8.heap.size ≤ w9.heap.size) := b.size
    replace HO : Hid (Below w.heap.size w w9) := HO.out.trans (b.mono HO.out.size)
    clear b
    go_upto_region 11 with fail
    obtain ⟨w10, hwd⟩ : ∃ W, W = w9.alloc (.cells #[.int .i64 0, .slice (some ⟨gb, 0, none⟩) D D, .int .i64 SN] 28) := ⟨_, rfl⟩
    have BB : Hid (Blk w10 w9.heap.size #[.int .i64 0, .slice (some ⟨gb, 0, none⟩) D D, .int .i64 SN] 28) := by show Blk _ _ _ _; rw [hwd]; exact Blk.new rfl
    have b : Below w9.heap.size w9 w10 := by rw [hwd]; exact (Below.refl _ _).alloc (Nat.le_refl _) _
    have Y10 : Hid (w9.heap.size + 1 ≤ w10.heap.size) := by show _ ≤ _; rw [hwd]; simp
    rw [← hwd]
    clear hwd
    replace OC : Hid (OwS 2 w3.heap.size w4.heap.size w10 (.slice (some ⟨gc, 0, none⟩) N N) N (fun i => .int .i64 (cx s (i + 1) % m))) := OC.out.later b
    replace BC : Hid (Blk w10 w4.heap.size #[.int .i64 0, .slice (some ⟨gc, 0, none⟩) N N, .int .i64 SN] 28) := BC.out.later b
    replace OA : Hid (OwS 2 w6.heap.size w7.heap.size w10 (.slice (some ⟨ga, 0, none⟩) A A) A (fun i => .int .i64 (cx s (i + 1) % m))) := OA.out.later b
    replace BA : Hid (Blk w10 w7.heap.size #[.int .i64 0, .slice (some ⟨ga, 0, none⟩) A A, .int .i64 SA] 28) := BA.out.later b
    replace OB : Hid (OwS 2 w8.heap.size w9.heap.size w10 (.slice (some ⟨gb, 0, none⟩) D D) D (fun i => .int .i64 (cx SA (i + 1) % m))) := OB.out.later b
    have Z10 : Hid (w9.heap.size ≤ w10.heap.size) := b.size
    replace HO : Hid (Below w.heap.size w w10) := HO.out.trans (b.mono HO.out.size)
    clear b
    clear ca2 CA CB
    obtain ⟨X, hX⟩ : ∃ X, X = w10 := ⟨_, rfl⟩
    rw [← hX] at HO OC BC OA BA OB BB ⊢
    have k1 : ∀ W, Below X.heap.size X W → W.cell? ⟨w9.heap.size, 2, none⟩ = some (.int .i64 SN) := fun W hb => (hb.cell (by have := BB.out.lt; simpa using this)).trans (BB.out.cell (j := 2) rfl)
    have k2 : ∀ W, Below X.heap.size X W → W.cell? ⟨w4.heap.size, 2, none⟩ = some (.int .i64 SN) := fun W hb => (hb.cell (by have := BC.out.lt; simpa using this)).trans (BC.out.cell (j := 2) rfl)
    have k3 : ∀ W, Below X.heap.size X W → W.cell? ⟨w7.heap.size, 1, none⟩ = some (.slice (some ⟨ga, 0, none⟩) A A) := fun W hb => (hb.cell (by have := BA.out.lt; simpa using this)).trans (BA.out.cell (j := 1) rfl)
    have k4 : ∀ W, Below X.heap.size X W → W.cell? ⟨w9.heap.size, 1, none⟩ = some (.slice (some ⟨gb, 0, none⟩) D D) := fun W hb => (hb.cell (by have := BB.out.lt; simpa using this)).trans (BB.out.cell (j := 1) rfl)
    have k5 : ∀ W, Below X.heap.size X W → W.cell? ⟨w4.heap.size, 1, none⟩ = some (.slice (some ⟨gc, 0, none⟩) N N) := fun W hb => (hb.cell (by have := BC.out.lt; simpa using this)).trans (BC.out.cell (j := 1) rfl)
    go_wp2_with fail
    have GA : Hid (Seg X ga 2 0 A (fun i => .int .i64 (cx s (i + 1) % m))) := (OwS.seg OA.out).1
    have GB : Hid (Seg X gb 2 0 D (fun i => .int .i64 (cx SA (i + 1) % m))) := (OwS.seg OB.out).1
    have GC : Hid (Seg X gc 2 0 N (fun i => .int .i64 (cx s (i + 1) % m))) := (OwS.seg OC.out).1
    have hA9 : Hid (0 + A ≤ 1000000) := by show _ ≤ _; omega
    have hD9 : Hid (A + D ≤ 1000000) := by show _ ≤ _; omega
    have hN9 : Hid (N ≤ 1000000000000) := by show _ ≤ _; omega
    have xsz : X.heap.size ≤ X.heap.size := Nat.le_refl _
    have bX : Below X.heap.size X X := Below.refl _ _
    clear OA OB OC BA BB HG hn hn2 hb hADb hN1
    replace hX : Hid (X = _) := hX
    go_region_held3 (fun W => Below X.heap.size X W) (go_grown) (first
      | (refine step_app (by rfl) (.tmp 61) (.tmp 63) (by rfl) (X.drew.alloc (.cells #[] 2)) X.heap.size (.slice (some ⟨X.heap.size, 0, none⟩) 0 0) 0 (fun i => cx s (i + 1) % m) (by rfl) (owns_empty X.drew 2 1) ga A A (fun i => cx s (i + 1) % m) (by rfl) (GA.out.drew.alloc _) hA9.out (by simp) ?_; intro v1 u1 own1 grow1; have B1 : Below X.heap.size X u1 := (((Below.refl X.heap.size X).drew).alloc (Nat.le_refl _) _).grown grow1 (by simp) (fun q hq => ((owns_empty X.drew 2 1).lt q hq).1); have O1 : Hid (u1.ownsRow X.heap.size 2 1 v1 A (il (fun i => cx s (i + 1) % m) A)) := own_zero (f := fun i => cx s (i + 1) % m) (g := fun i => cx s (i + 1) % m) own1; have Z1 : X.heap.size ≤ u1.heap.size := B1.size; clear own1 grow1)
      | (refine step_app (by rfl) (.tmp 64) (.tmp 66) (by rfl) u1 X.heap.size v1 A (fun i => cx s (i + 1) % m) (by rfl) O1.out gb D D (fun i => cx SA (i + 1) % m) (by rfl) (GB.out.of_block (B1.block _ GB.out.lt)) hD9.out Z1 ?_; intro v2 u2 own2 grow2; have B2 : Below X.heap.size X u2 := B1.grown grow2 (by omega) (fun q hq => (O1.out.lt q hq).1); have O2 : Hid (OwS 2 X.heap.size u2.heap.size u2 v2 N (fun i => .int .i64 (cx s (i + 1) % m))) := own_all (f := fun i => cx s (i + 1) % m) (g := fun i => cx SA (i + 1) % m) (F := fun i => cx s (i + 1) % m) own2 hAD.out HS2.out; clear own2 grow2)
      | (go_at_call 18; refine (nums_any O2.out.rdI ((GC.out.of_block (B2.block _ GC.out.lt)).rdI) hN9.out).mono ?_; rintro e u3 ⟨rfl, q3, rfl⟩; have B3 : Below X.heap.size X (u2.drewN q3) := below_drewN B2 q3))
    obtain ⟨Y, hY⟩ : ∃ Y, Y = u2.drewN q3 := ⟨_, rfl⟩
    rw [← hY] at B3 ⊢
    have BY : Hid (Below X.heap.size X Y) := B3
    have cY1 := k5 Y B3
    have cY2 := k2 Y B3
    have HCY : Hid (Seg Y gc 2 0 N (fun i => .int .i64 (cx s (i + 1) % m))) := GC.out.of_block (B3.block _ GC.out.lt)
    have m0 := HK.out.1.m0
    have hSNb : 0 ≤ SN ∧ SN < 2147483647 := by rw [HK.out.2]; exact cx_bd HK.out.1.s0 HK.out.1.s1 N
    obtain ⟨hSN0, hSN1⟩ := hSNb
    clear k1 k2 k3 k4 k5 hY B1 B2 B3 O1 O2 Z1 bX xsz GA GB GC
    try clear hHeld
    go_wp2_with fail
    go_loopw [11] (fun i wr => wr = Y ∧ ∃ j : Nat, j ≤ N ∧ i = .int .i64 j) (fun i _ => N - (intOf i).toNat)
    case atStart => exact ⟨rfl, 0, Nat.zero_le _, rfl⟩
    case round =>
      obtain ⟨rfl, j, hj, rfl⟩ := hrel
      by_cases hjn : j < N
      · have e1 : wr.cell? ⟨gc, j, none⟩ = some (.int .i64 (cx s (j + 1) % m)) := by simpa using HCY.out.cell hjn
        obtain ⟨Z, hZ⟩ : ∃ Z, Z = cx s (j + 1) % m := ⟨_, rfl⟩
        have z0 : ¬ Z < 0 := by have := Int.emod_nonneg (cx s (j + 1)) (show m ≠ 0 by omega); omega
        have z1 : ¬ m ≤ Z := by have := Int.emod_lt_of_pos (cx s (j + 1)) (show 0 < m by omega); omega
        rw [← hZ] at e1
        clear hZ
        go_wp2
        go_roundw
        case rel => exact ⟨by trivial, j + 1, by omega, by simp⟩
        case measure => simp [intOf]; omega
      · obtain rfl : N = j := by omega
        go_wp2
        go_ret
        exact ⟨rfl, HO.out.trans (BY.out.mono HO.out.size)⟩
  · skip
    go_wp2_with fail
    refine (sCoins_bad s k m hk _).mono ?_
    rintro e w2 ⟨vs, rfl, os, b⟩
    obtain ⟨sao, scap, rfl⟩ := os.form
    have OS : Hid (OwS 2 w1.heap.size w2.heap.size w2 (.slice sao 0 scap) 0 (fun i => .int .i64 (0))) := os
    clear os
    have Z2 : Hid (w1.heap.size ≤ w2.heap.size) := b.size
    replace HO : Hid (Below w.heap.size w w2) := HO.out.trans (b.mono HO.out.size)
    clear b
    go_upto_region 5 with fail
    obtain ⟨w3, hwd⟩ : ∃ W, W = w2.alloc (.cells #[.int .i64 1, .slice sao 0 scap, .int .i64 0] 28) := ⟨_, rfl⟩
    have BS : Hid (Blk w3 w2.heap.size #[.int .i64 1, .slice sao 0 scap, .int .i64 0] 28) := by show Blk _ _ _ _; rw [hwd]; exact Blk.new rfl
    have b : Below w2.heap.size w2 w3 := by rw [hwd]; exact (Below.refl _ _).alloc (Nat.le_refl _) _
    have Y3 : Hid (w2.heap.size + 1 ≤ w3.heap.size) := by show _ ≤ _; rw [hwd]; simp
    rw [← hwd]
    clear hwd
    replace OS : Hid (OwS 2 w1.heap.size w2.heap.size w3 (.slice sao 0 scap) 0 (fun i => .int .i64 (0))) := OS.out.later b
    have Z3 : Hid (w2.heap.size ≤ w3.heap.size) := b.size
    replace HO : Hid (Below w.heap.size w w3) := HO.out.trans (b.mono HO.out.size)
    clear b
    go_wp2_with fail
    refine (iCoins_bad s k m hk _).mono ?_
    rintro e w4 ⟨vg, rfl, og, b⟩
    obtain ⟨gao, gcap, rfl⟩ := og.form
    have OG : Hid (OwS 2 w3.heap.size w4.heap.size w4 (.slice gao 0 gcap) 0 (fun i => .int .i64 (0))) := og
    clear og
    replace OS : Hid (OwS 2 w1.heap.size w2.heap.size w4 (.slice sao 0 scap) 0 (fun i => .int .i64 (0))) := OS.out.later b
    replace BS : Hid (Blk w4 w2.heap.size #[.int .i64 1, .slice sao 0 scap, .int .i64 0] 28) := BS.out.later b
    have Z4 : Hid (w3.heap.size ≤ w4.heap.size) := b.size
    replace HO : Hid (Below w.heap.size w w4) := HO.out.trans (b.mono HO.out.size)
    clear b
    go_upto_region 6 with fail
    obtain ⟨w5, hwd⟩ : ∃ W, W = w4.alloc (.cells #[.int .i64 1, .slice gao 0 gcap, .int .i64 0] 28) := ⟨_, rfl⟩
    have BC : Hid (Blk w5 w4.heap.size #[.int .i64 1, .slice gao 0 gcap, .int .i64 0] 28) := by show Blk _ _ _ _; rw [hwd]; exact Blk.new rfl
    have b : Below w4.heap.size w4 w5 := by rw [hwd]; exact (Below.refl _ _).alloc (Nat.le_refl _) _
    have Y5 : Hid (w4.heap.size + 1 ≤ w5.heap.size) := by show _ ≤ _; rw [hwd]; simp
    rw [← hwd]
    clear hwd
    replace OS : Hid (OwS 2 w1.heap.size w2.heap.size w5 (.slice sao 0 scap) 0 (fun i => .int .i64 (0))) := OS.out.later b
    replace BS : Hid (Blk w5 w2.heap.size #[.int .i64 1, .slice sao 0 scap, .int .i64 0] 28) := BS.out.later b
    replace OG : Hid (OwS 2 w3.heap.size w4.heap.size w5 (.slice gao 0 gcap) 0 (fun i => .int .i64 (0))) := OG.out.later b
    have Z5 : Hid (w4.heap.size ≤ w5.heap.size) := b.size
    replace HO : Hid (Below w.heap.size w w5) := HO.out.trans (b.mono HO.out.size)
    clear b
    have cs := BS.out.cell (j := 0) (v := .int .i64 1) rfl
    have cg := BC.out.cell (j := 0) (v := .int .i64 1) rfl
    go_wp2
    go_ret
    exact ⟨rfl, HO.out⟩

set_option maxRecDepth 100000 in
theorem lifted (os : Os) (started : os.Started) (H : Type) (enc : TypeId × Value → H) :
    ReturnsInHanded {} Try.checked os 3 .any (Rows.fnCoinsSpec.pre6 enc Try.prog Try.f3 Rows.fnCoinsRow.domain false) (Rows.fnCoinsSpec.post enc Try.prog Try.f3 false true false false) := by
  refine returnsInHanded_of_change (C := Try.checked) own started (by kernel_rfl) Try.func3
    (ChangeSpec.witness6 (enc := enc) (C := Try.checked) false ⟨#[], #[.slice none 0 0], []⟩ 8 (by kernel_rfl) (by kernel_rfl) (by kernel_rfl) (by kernel_rfl)) ?_
  intro W base args ds gs before hval0 hW hcnd _
  have hval : ∀ (j : Nat) t v, Try.f3.params[j]? = some t → args[j]? = some v → Value.okWide Try.prog W .any base t v := hval0
  have hW' := hW
  obtain ⟨p, q, hA0, hV, rfl, hfz, hnd⟩ := hW
  have hA : DataW.TrodAll enc Try.prog W 0 (fun _ => true) true Try.f3.params.toList args.toList ds p := hA0
  rw [Try.params3] at hA hval
  obtain ⟨v0, vs0, d0, ds0, p0, q0, hargs, rfl, rfl, h0, r0⟩ := trodAll_cons hA
  obtain ⟨rfl, rfl, rfl⟩ := trodAll_nil r0
  obtain rfl : args = #[v0] := by cases args; simp_all
  obtain ⟨rfl, rfl⟩ := trodVars_none hV
  have k0 := h0
  have lt0 : ∀ x ∈ p0, x.block < W.heap.size := by obtain ⟨m, hm⟩ := k0; exact DataW.trod_lt m _ _ _ hm
  obtain ⟨n0, F0, R0, nb0, fb0⟩ := open_bytes (hval 0 22 v0 rfl rfl) h0
  clear hA0 hval0
  refine (walk R0 nb0 fb0).mono fun e W' ⟨he, bel⟩ => ?_
  subst he
  exact ⟨_, rfl, _, _, _, [], _, [], hW', trodAll_mk1 (shut_bool Try.underlying4 _), (trodAll_cons_mk (Below.trod laidOut (by kernel_rfl) (of_decide_eq_true (by kernel_rfl)) k0 bel lt0) trodAll_mk0), rfl, bel.frame _, fun h => by cases h⟩

theorem over : Rows.fnCoinsRow.holds Try.pinned (OpenSpec.ofChange Rows.fnCoinsSpec) :=
  OpenClaim.holds_of_wide 3 Try.f3 rfl rfl rfl rfl rfl rfl rfl ⟨rfl, rfl, rfl, rfl, rfl⟩ rfl rfl rfl rfl rfl (by kernel_rfl) Try.func3 (by kernel_rfl)
    (of_decide_eq_true (by kernel_rfl)) (by unfold Func.isWrapper; first | (rw [if_pos (by decide +kernel)]; kernel_rfl) | (rw [if_neg (by decide +kernel)]; exact ⟨rfl, rfl⟩))
    (fun os started H enc _ => lifted os started H enc)
end Go.Proofs.Ytgidoceflkdklaa.LawCoinsX
namespace Go.Proofs.Ytgidoceflkdklaa
theorem coinsLaw_holds : Rows.FnCoinsSaid := LawCoinsX.over
#print axioms coinsLaw_holds
end Go.Proofs.Ytgidoceflkdklaa
