/- Photons split by coins: both packages. -/
import Derived.Test.YtkkajcdjkfbcgaaSd2
import Derived.Handy
import Derived.Deep.RegionHeld3
namespace Go.Proofs.Ytkkajcdjkfbcgaa
open Go.RowKit
set_option linter.unusedVariables false
set_option linter.unusedSimpArgs false
set_option maxRecDepth 20000 in
set_option maxHeartbeats 3200000 in
theorem split_i_bad (n num m s : Int) (h : ¬ Sgood n num m s) (w : World) : Calls Try.prog 26 #[.int .i64 n, .int .i64 num, .int .i64 m, .int .i64 s] w fun e w' => e = .returned (Kv 1 0 0 0) ∧ Below w.heap.size w w' := by
  have HG : Hid (¬ Sgood n num m s) := h
  clear h
  cases hn : photB n
  · go_enter Try.func26, Try.ntmps26
    go_wp2_with fail
    refine (phot_i n _).mono ?_
    rintro e w1 ⟨rfl, rfl⟩
    rw [hn]
    go_wp2
    refine bodyPost_ret (v := Kv 1 0 0 0) (by simp [results, Try.results26, go_sem]) rfl ⟨rfl, by go_grown⟩
  have hn1 := photB_t hn
  cases hm : rate m
  · go_enter Try.func26, Try.ntmps26
    go_wp2_with fail
    refine (phot_i n _).mono ?_
    rintro e w1 ⟨rfl, rfl⟩
    rw [hn]
    go_wp2_with fail
    refine (rate_i m _).mono ?_
    rintro e w1 ⟨rfl, rfl⟩
    rw [hm]
    go_wp2
    refine bodyPost_ret (v := Kv 1 0 0 0) (by simp [results, Try.results26, go_sem]) rfl ⟨rfl, by go_grown⟩
  have hm1 := rate_t hm
  by_cases q0 : num < 0
  · go_enter Try.func26, Try.ntmps26
    go_wp2_with fail
    refine (phot_i n _).mono ?_
    rintro e w1 ⟨rfl, rfl⟩
    rw [hn]
    go_wp2_with fail
    refine (rate_i m _).mono ?_
    rintro e w1 ⟨rfl, rfl⟩
    rw [hm]
    go_wp2
    refine bodyPost_ret (v := Kv 1 0 0 0) (by simp [results, Try.results26, go_sem]) rfl ⟨rfl, by go_grown⟩
  by_cases q1 : m < num
  · go_enter Try.func26, Try.ntmps26
    go_wp2_with fail
    refine (phot_i n _).mono ?_
    rintro e w1 ⟨rfl, rfl⟩
    rw [hn]
    go_wp2_with fail
    refine (rate_i m _).mono ?_
    rintro e w1 ⟨rfl, rfl⟩
    rw [hm]
    go_wp2
    refine bodyPost_ret (v := Kv 1 0 0 0) (by simp [results, Try.results26, go_sem]) rfl ⟨rfl, by go_grown⟩
  have hs : ¬ Ck s n m := fun hk => HG.out ⟨by omega, by omega, by omega, by omega, by omega, by omega, hk.s0, hk.s1⟩
  have HC : Hid (∀ (p : Nat) (W : World), Blk W p #[.int .i64 s] 2 → Calls Try.prog 85 #[Kl p, .int .i64 n, .int .i64 num, .int .i64 m] W fun e w' => e = .returned (Kv 1 0 0 0) ∧ Within p (p + 1) W w' ∧ Blk w' p #[.int .i64 0] 2) := fun p W hW => splitBy_bad n num (fun W => iCoins_bad s n m hs W) p W hW
  clear hs HG
  go_enter Try.func26, Try.ntmps26
  go_wp2_with fail
  refine (phot_i n _).mono ?_
  rintro e w1 ⟨rfl, rfl⟩
  rw [hn]
  go_wp2_with fail
  refine (rate_i m _).mono ?_
  rintro e w1 ⟨rfl, rfl⟩
  rw [hm]
  go_wp2_with fail
  refine (coinsFrom_any s _).mono ?_
  rintro e w1 ⟨rfl, hw1⟩
  have hr : Blk w1 w.heap.size #[.int .i64 0, .int .i64 0, .int .i64 0, .int .i64 0] 52 := by rw [hw1]; exact (Blk.new rfl).alloc _
  have hq : Blk w1 (w.heap.size + 1) #[.int .i64 s] 2 := by rw [hw1]; exact Blk.new (by simp)
  have hB : Below w.heap.size w w1 := by rw [hw1]; exact ((Below.refl _ _).alloc (Nat.le_refl _) _).alloc (by simp) _
  have H1 : Hid (Blk w1 w.heap.size #[.int .i64 0, .int .i64 0, .int .i64 0, .int .i64 0] 52 ∧ Blk w1 (w.heap.size + 1) #[.int .i64 s] 2 ∧ Below w.heap.size w w1) := ⟨hr, hq, hB⟩
  have hs1 : (w.alloc (.cells #[.int .i64 0, .int .i64 0, .int .i64 0, .int .i64 0] 52)).heap.size = w.heap.size + 1 := by simp
  rw [hs1]
  clear hw1 hr hq hB
  go_wp2_with fail
  refine (HC.out _ _ H1.out.2.1).mono ?_
  rintro e w2 ⟨rfl, wi, hq⟩
  have HR : Hid (Blk w2 w.heap.size #[.int .i64 0, .int .i64 0, .int .i64 0, .int .i64 0] 52 ∧ Below w.heap.size w w2) := ⟨H1.out.1.under wi (by omega), H1.out.2.2.trans (wi.below.mono (by omega))⟩
  clear wi hq H1 HC hs1
  have d0 := HR.out.1.cell (j := 0) (v := .int .i64 0) rfl
  have f0 := HR.out.1.frozen 0
  have d1 := HR.out.1.cell (j := 1) (v := .int .i64 0) rfl
  have f1 := HR.out.1.frozen 1
  have d2 := HR.out.1.cell (j := 2) (v := .int .i64 0) rfl
  have f2 := HR.out.1.frozen 2
  have d3 := HR.out.1.cell (j := 3) (v := .int .i64 0) rfl
  have f3 := HR.out.1.frozen 3
  go_wp2
  refine bodyPost_ret (v := Kv 1 0 0 0) (by simp [results, Try.results26, go_sem, d0, d1, d2, d3]) rfl ⟨rfl, ?_⟩
  exact (((HR.out.2.setCell (by simp) _).setCell (by simp) _).setCell (by simp) _).setCell (by simp) _
set_option maxRecDepth 20000 in
set_option maxHeartbeats 3200000 in
theorem split_s_bad (n num m s : Int) (h : ¬ Sgood n num m s) (w : World) : Calls Try.prog 25 #[.int .i64 n, .int .i64 num, .int .i64 m, .int .i64 s] w fun e w' => e = .returned (Kv 1 0 0 0) ∧ Below w.heap.size w w' := by
  have HG : Hid (¬ Sgood n num m s) := h
  clear h
  cases hn : photB n
  · go_enter Try.func25, Try.ntmps25
    go_wp2_with fail
    refine (phot_s n _).mono ?_
    rintro e w1 ⟨rfl, rfl⟩
    rw [hn]
    go_wp2
    refine bodyPost_ret (v := Kv 1 0 0 0) (by simp [results, Try.results25, go_sem]) rfl ⟨rfl, by go_grown⟩
  have hn1 := photB_t hn
  by_cases m0 : m < 1
  · go_enter Try.func25, Try.ntmps25
    go_wp2_with fail
    refine (phot_s n _).mono ?_
    rintro e w1 ⟨rfl, rfl⟩
    rw [hn]
    go_wp2
    refine bodyPost_ret (v := Kv 1 0 0 0) (by simp [results, Try.results25, go_sem]) rfl ⟨rfl, by go_grown⟩
  by_cases m1 : 1000000 < m
  · go_enter Try.func25, Try.ntmps25
    go_wp2_with fail
    refine (phot_s n _).mono ?_
    rintro e w1 ⟨rfl, rfl⟩
    rw [hn]
    go_wp2
    refine bodyPost_ret (v := Kv 1 0 0 0) (by simp [results, Try.results25, go_sem]) rfl ⟨rfl, by go_grown⟩
  by_cases q0 : num < 0
  · go_enter Try.func25, Try.ntmps25
    go_wp2_with fail
    refine (phot_s n _).mono ?_
    rintro e w1 ⟨rfl, rfl⟩
    rw [hn]
    go_wp2
    refine bodyPost_ret (v := Kv 1 0 0 0) (by simp [results, Try.results25, go_sem]) rfl ⟨rfl, by go_grown⟩
  by_cases q1 : m < num
  · go_enter Try.func25, Try.ntmps25
    go_wp2_with fail
    refine (phot_s n _).mono ?_
    rintro e w1 ⟨rfl, rfl⟩
    rw [hn]
    go_wp2
    refine bodyPost_ret (v := Kv 1 0 0 0) (by simp [results, Try.results25, go_sem]) rfl ⟨rfl, by go_grown⟩
  have hs : ¬ Ck s n m := fun hk => HG.out ⟨by omega, by omega, by omega, by omega, by omega, by omega, hk.s0, hk.s1⟩
  have HC : Hid (∀ W, FX 82 #[.int .i64 s, .int .i64 n, .int .i64 m] W 1 0 (fun _ => 0) 0) := fun W => sCoins_bad s n m hs W
  clear hs HG
  go_enter Try.func25, Try.ntmps25
  go_wp2_with fail
  refine (phot_s n _).mono ?_
  rintro e w1 ⟨rfl, rfl⟩
  rw [hn]
  go_wp2_with fail
  refine (HC.out _).mono ?_
  rintro e w1 ⟨v, rfl, ho, b⟩
  obtain ⟨ao, cap, rfl⟩ := ho.form
  obtain ⟨w2, hw2⟩ : ∃ W, W = w1.alloc (.cells #[.int .i64 1, .slice ao 0 cap, .int .i64 0] 57) := ⟨_, rfl⟩
  have b2 : Below w1.heap.size w1 w2 := by rw [hw2]; exact (Below.refl _ _).alloc (Nat.le_refl _) _
  have hr : Blk (w.alloc (.cells #[.int .i64 0, .int .i64 0, .int .i64 0, .int .i64 0] 52)) w.heap.size #[.int .i64 0, .int .i64 0, .int .i64 0, .int .i64 0] 52 := Blk.new rfl
  have hz : w.heap.size < w1.heap.size := Nat.lt_of_lt_of_le hr.lt b.size
  have HR : Hid (Blk w2 w.heap.size #[.int .i64 0, .int .i64 0, .int .i64 0, .int .i64 0] 52 ∧ Below w.heap.size w w2) := by
    refine ⟨(hr.later b).later b2, ?_⟩
    exact (((Below.refl _ _).alloc (Nat.le_refl _) _).trans (b.mono (by simp))).trans (b2.mono (by omega))
  have g0 : w2.cell? ⟨w1.heap.size, 0, none⟩ = some (.int .i64 1) := by rw [hw2]; exact (Blk.new rfl).cell (j := 0) rfl
  clear ho b hr b2 HC
  go_upto_region 4 with fail
  rw [← hw2]
  clear hw2
  have d0 := HR.out.1.cell (j := 0) (v := .int .i64 0) rfl
  have f0 := HR.out.1.frozen 0
  have d1 := HR.out.1.cell (j := 1) (v := .int .i64 0) rfl
  have f1 := HR.out.1.frozen 1
  have d2 := HR.out.1.cell (j := 2) (v := .int .i64 0) rfl
  have f2 := HR.out.1.frozen 2
  have d3 := HR.out.1.cell (j := 3) (v := .int .i64 0) rfl
  have f3 := HR.out.1.frozen 3
  go_wp2
  refine bodyPost_ret (v := Kv 1 0 0 0) (by simp [results, Try.results25, go_sem, d0, d1, d2, d3]) rfl ⟨rfl, ?_⟩
  exact (((HR.out.2.setCell (by simp) _).setCell (by simp) _).setCell (by simp) _).setCell (by simp) _
set_option maxRecDepth 20000 in
set_option maxHeartbeats 3200000 in
theorem split_i_good {n : Nat} {num m s : Int} (hg : Sgood n num m s) (w : World) : Calls Try.prog 26 #[.int .i64 (n : Int), .int .i64 num, .int .i64 m, .int .i64 s] w fun e w' => e = .returned (Kv 0 (ca s m num n) ((n : Int) - ca s m num n) (cx s n)) ∧ Below w.heap.size w w' := by
  have HC : Hid (∀ (p : Nat) (W : World), Blk W p #[.int .i64 s] 2 → Calls Try.prog 85 #[Kl p, .int .i64 (n : Int), .int .i64 num, .int .i64 m] W fun e w' => e = .returned (Kv 0 (ca s m num n) ((n : Int) - ca s m num n) (cx s n)) ∧ Within p (p + 1) W w' ∧ Blk w' p #[.int .i64 (cx s n)] 2) := fun p W hW => splitBy_good hg p W hW
  obtain ⟨L, hL⟩ : ∃ L, L = cx s n := ⟨_, rfl⟩
  obtain ⟨E, hE⟩ : ∃ L, L = ca s m num n := ⟨_, rfl⟩
  rw [← hL, ← hE] at HC ⊢
  clear hL hE
  obtain ⟨n0, n1, m0, m1, q0, q1, s0, s1⟩ := hg
  have hn : photB n = true := by simp [photB]; omega
  have hm : rate m = true := by simp [rate]; omega
  go_enter Try.func26, Try.ntmps26
  go_wp2_with fail
  refine (phot_i n _).mono ?_
  rintro e w1 ⟨rfl, rfl⟩
  rw [hn]
  go_wp2_with fail
  refine (rate_i m _).mono ?_
  rintro e w1 ⟨rfl, rfl⟩
  rw [hm]
  go_wp2_with fail
  refine (coinsFrom_any s _).mono ?_
  rintro e w1 ⟨rfl, hw1⟩
  have hr : Blk w1 w.heap.size #[.int .i64 0, .int .i64 0, .int .i64 0, .int .i64 0] 52 := by rw [hw1]; exact (Blk.new rfl).alloc _
  have hq : Blk w1 (w.heap.size + 1) #[.int .i64 s] 2 := by rw [hw1]; exact Blk.new (by simp)
  have hB : Below w.heap.size w w1 := by rw [hw1]; exact ((Below.refl _ _).alloc (Nat.le_refl _) _).alloc (by simp) _
  have H1 : Hid (Blk w1 w.heap.size #[.int .i64 0, .int .i64 0, .int .i64 0, .int .i64 0] 52 ∧ Blk w1 (w.heap.size + 1) #[.int .i64 s] 2 ∧ Below w.heap.size w w1) := ⟨hr, hq, hB⟩
  have hs1 : (w.alloc (.cells #[.int .i64 0, .int .i64 0, .int .i64 0, .int .i64 0] 52)).heap.size = w.heap.size + 1 := by simp
  rw [hs1]
  clear hw1 hr hq hB
  go_wp2_with fail
  refine (HC.out _ _ H1.out.2.1).mono ?_
  rintro e w2 ⟨rfl, wi, hq⟩
  have HR : Hid (Blk w2 w.heap.size #[.int .i64 0, .int .i64 0, .int .i64 0, .int .i64 0] 52 ∧ Below w.heap.size w w2) := ⟨H1.out.1.under wi (by omega), H1.out.2.2.trans (wi.below.mono (by omega))⟩
  clear wi hq H1 HC hs1
  have d0 := HR.out.1.cell (j := 0) (v := .int .i64 0) rfl
  have f0 := HR.out.1.frozen 0
  have d1 := HR.out.1.cell (j := 1) (v := .int .i64 0) rfl
  have f1 := HR.out.1.frozen 1
  have d2 := HR.out.1.cell (j := 2) (v := .int .i64 0) rfl
  have f2 := HR.out.1.frozen 2
  have d3 := HR.out.1.cell (j := 3) (v := .int .i64 0) rfl
  have f3 := HR.out.1.frozen 3
  go_wp2
  refine bodyPost_ret (v := Kv 0 E ((n : Int) - E) L) (by simp [results, Try.results26, go_sem, d0, d1, d2, d3]) rfl ⟨rfl, ?_⟩
  exact (((HR.out.2.setCell (by simp) _).setCell (by simp) _).setCell (by simp) _).setCell (by simp) _
set_option maxRecDepth 20000 in
set_option maxHeartbeats 3200000 in
theorem split_s_good {n : Nat} {num m s : Int} (hg : Sgood n num m s) (w : World) : Calls Try.prog 25 #[.int .i64 (n : Int), .int .i64 num, .int .i64 m, .int .i64 s] w fun e w' => e = .returned (Kv 0 (ca s m num n) ((n : Int) - ca s m num n) (cx s n)) ∧ Below w.heap.size w w' := by
  have HC : Hid (∀ W, FX 82 #[.int .i64 s, .int .i64 (n : Int), .int .i64 m] W 0 n (fun i => cx s (i + 1) % m) (cx s n)) := fun W => sCoins_good s m n hg.ck W
  have HB : Hid (∀ k, 0 ≤ ca s m num k ∧ ca s m num k ≤ k) := ca_bd s m num
  obtain ⟨L, hL⟩ : ∃ L, L = cx s n := ⟨_, rfl⟩
  obtain ⟨E, hE⟩ : ∃ L, L = ca s m num n := ⟨_, rfl⟩
  rw [← hL] at HC ⊢
  rw [← hE]
  have HE : Hid (E = ca s m num n) := hE
  clear hL hE
  obtain ⟨n0, n1, m0, m1, q0, q1, s0, s1⟩ := hg
  have hn : photB n = true := by simp [photB]; omega
  go_enter Try.func25, Try.ntmps25
  go_wp2_with fail
  refine (phot_s n _).mono ?_
  rintro e w1 ⟨rfl, rfl⟩
  rw [hn]
  go_wp2_with fail
  refine (HC.out _).mono ?_
  rintro e w1 ⟨v, rfl, ho, b⟩
  obtain ⟨ao, cap, rfl⟩ := ho.form
  obtain ⟨w2, hw2⟩ : ∃ W, W = (w1.alloc (.cells #[.int .i64 0, .slice ao n cap, .int .i64 L] 57)).alloc (.cells #[.int .i64 0, .int .i64 0, .int .i64 0, .int .i64 L] 52) := ⟨_, rfl⟩
  have b2 : Below w1.heap.size w1 w2 := by rw [hw2]; exact ((Below.refl _ _).alloc (Nat.le_refl _) _).alloc (by simp) _
  have hr : Blk (w.alloc (.cells #[.int .i64 0, .int .i64 0, .int .i64 0, .int .i64 0] 52)) w.heap.size #[.int .i64 0, .int .i64 0, .int .i64 0, .int .i64 0] 52 := Blk.new rfl
  have z1 : w.heap.size < w1.heap.size := Nat.lt_of_lt_of_le hr.lt b.size
  have H2 : Hid (Blk w2 w.heap.size #[.int .i64 0, .int .i64 0, .int .i64 0, .int .i64 0] 52 ∧ Below w.heap.size w w2 ∧ Blk w2 (w1.heap.size + 1) #[.int .i64 0, .int .i64 0, .int .i64 0, .int .i64 L] 52 ∧ OwS 2 (w.heap.size + 1) w1.heap.size w2 (.slice ao n cap) n (fun i => .int .i64 (cx s (i + 1) % m)) ∧ Blk w2 w1.heap.size #[.int .i64 0, .slice ao n cap, .int .i64 L] 57) := by
    refine ⟨(hr.later b).later b2, (((Below.refl _ _).alloc (Nat.le_refl _) _).trans (b.mono (by simp))).trans (b2.mono (by omega)), by rw [hw2]; exact Blk.new (by simp), ?_, by rw [hw2]; exact (Blk.new rfl).alloc _⟩
    have ho2 := ho.later b2
    rwa [show (w.alloc (.cells #[.int .i64 0, .int .i64 0, .int .i64 0, .int .i64 0] 52)).heap.size = w.heap.size + 1 by simp] at ho2
  have g0 : (w1.alloc (.cells #[.int .i64 0, .slice ao n cap, .int .i64 L] 57)).cell? ⟨w1.heap.size, 0, none⟩ = some (.int .i64 0) := (Blk.new rfl).cell (j := 0) rfl
  clear ho b HC b2 hr
  go_upto_region 7 with fail
  rw [← hw2]
  clear hw2
  go_wp2_with fail
  go_loopw [11] (fun i wr => ∃ k : Nat, k ≤ n ∧ i = .int .i64 (k : Int) ∧ Hid (Blk wr w.heap.size #[.int .i64 0, .int .i64 0, .int .i64 0, .int .i64 0] 52 ∧ Below w.heap.size w wr ∧ Blk wr (w1.heap.size + 1) #[.int .i64 0, .int .i64 (ca s m num k), .int .i64 ((k : Int) - ca s m num k), .int .i64 L] 52 ∧ OwS 2 (w.heap.size + 1) w1.heap.size wr (.slice ao n cap) n (fun i => .int .i64 (cx s (i + 1) % m)) ∧ Blk wr w1.heap.size #[.int .i64 0, .slice ao n cap, .int .i64 L] 57)) (fun i _ => n - (intOf i).toNat)
  case atStart => exact ⟨0, Nat.zero_le _, rfl, H2⟩
  case round =>
    obtain ⟨k, hk, rfl, HK⟩ := hrel
    clear H2 g0
    have g1 := HK.out.2.2.2.2.cell (j := 1) (v := .slice ao n cap) rfl
    by_cases hkn : k < n
    · obtain ⟨h1, h2, h3, h4, h5⟩ := HK.out
      rcases h4 with ⟨e1, e2⟩ | ⟨g, cp, e1, r1, r2, r3⟩
      · omega
      cases e1
      have k1 := r3.cell (i := k) hkn
      rw [Nat.zero_add] at k1
      have c1 := h3.cell (j := 1) (v := .int .i64 (ca s m num k)) rfl
      have c2 := h3.cell (j := 2) (v := .int .i64 ((k : Int) - ca s m num k)) rfl
      have f1 := h3.frozen 1
      have f2 := h3.frozen 2
      have HS : Hid (Seg wr g 2 0 n (fun i => .int .i64 (cx s (i + 1) % m))) := r3
      have hb := HB.out k
      have hN : ca s m num (k + 1) = ca s m num k + (if cx s (k + 1) % m < num then 1 else 0) := rfl
      obtain ⟨X, hX⟩ : ∃ X, X = cx s (k + 1) % m := ⟨_, rfl⟩
      obtain ⟨A, hA⟩ : ∃ X, X = ca s m num k := ⟨_, rfl⟩
      have HA : Hid (A = ca s m num k) := hA
      rw [← hX] at k1 hN
      rw [← hA] at c1 c2 hb hN
      clear hX hA h1 h2 h3 h5 r3
      by_cases hlt : X < num
      · rw [if_pos hlt] at hN
        have HN : Hid (ca s m num (k + 1) = A + 1) := by show _ = _; rw [hN]
        clear hN
        go_wp2
        go_roundw
        case rel =>
          obtain ⟨h1, h2, h3, h4, h5⟩ := HK.out
          rw [← HA.out] at h3
          refine ⟨k + 1, by omega, by simp, h1.setOther (by simp; omega) _, h2.setCell (by simp; omega) _, ?_, ?_, h5.setOther (by simp) _⟩
          · rw [HN.out]
            exact h3.set 1 _ (by simp; omega)
          · exact Or.inr ⟨g, _, rfl, r1, r2, HS.out.setOther (by simp; omega) _⟩
        case measure => simp [intOf]; omega
      · rw [if_neg hlt] at hN
        have HN : Hid (ca s m num (k + 1) = A) := by show _ = _; rw [hN]; simp
        clear hN
        go_wp2
        go_roundw
        case rel =>
          obtain ⟨h1, h2, h3, h4, h5⟩ := HK.out
          rw [← HA.out] at h3
          refine ⟨k + 1, by omega, by simp, h1.setOther (by simp; omega) _, h2.setCell (by simp; omega) _, ?_, ?_, h5.setOther (by simp) _⟩
          · rw [HN.out]
            exact h3.set 2 _ (by simp; omega)
          · exact Or.inr ⟨g, _, rfl, r1, r2, HS.out.setOther (by simp; omega) _⟩
        case measure => simp [intOf]; omega
    · obtain rfl : k = n := by omega
      obtain ⟨h1, h2, h3, h4, h5⟩ := HK.out
      rw [← HE.out] at h3
      have c0 := h3.cell (j := 0) (v := .int .i64 0) rfl
      have c1 := h3.cell (j := 1) (v := .int .i64 E) rfl
      have c2 := h3.cell (j := 2) (v := .int .i64 ((k : Int) - E)) rfl
      have c3 := h3.cell (j := 3) (v := .int .i64 L) rfl
      have d0 := h1.cell (j := 0) (v := .int .i64 0) rfl
      have f0 := h1.frozen 0
      have d1 := h1.cell (j := 1) (v := .int .i64 0) rfl
      have f1 := h1.frozen 1
      have d2 := h1.cell (j := 2) (v := .int .i64 0) rfl
      have f2 := h1.frozen 2
      have d3 := h1.cell (j := 3) (v := .int .i64 0) rfl
      have f3 := h1.frozen 3
      clear h1 h3 h4 h5 HB HE
      go_wp2
      refine bodyPost_ret (v := Kv 0 E ((k : Int) - E) L) (by simp [results, Try.results25, go_sem, d0, d1, d2, d3]) rfl ⟨rfl, ?_⟩
      exact (((HK.out.2.1.setCell (by simp) _).setCell (by simp) _).setCell (by simp) _).setCell (by simp) _
end Go.Proofs.Ytkkajcdjkfbcgaa
