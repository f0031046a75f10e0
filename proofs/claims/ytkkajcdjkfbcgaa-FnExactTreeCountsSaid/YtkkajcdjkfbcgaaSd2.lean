/- Photons split by coins: the program and the specification. -/
import Derived.Test.YtkkajcdjkfbcgaaSc
import Derived.Handy
import Derived.Deep.RegionHeld3
namespace Go.Proofs.Ytkkajcdjkfbcgaa
open Go.RowKit
set_option linter.unusedVariables false
set_option linter.unusedSimpArgs false
set_option maxRecDepth 20000 in
set_option maxHeartbeats 1600000 in
theorem splitBy_bad {s m : Int} (n num : Int) (hC : ∀ W, FX 121 #[.int .i64 s, .int .i64 n, .int .i64 m] W 1 0 (fun _ => 0) 0) (p : Nat) (w : World) (h : Blk w p #[.int .i64 s] 2) :
    Calls Try.prog 85 #[Kl p, .int .i64 n, .int .i64 num, .int .i64 m] w fun e w' => e = .returned (Kv 1 0 0 0) ∧ Within p (p + 1) w w' ∧ Blk w' p #[.int .i64 0] 2 := by
  have hp := h.lt
  have HC : Hid (∀ W, Blk W p #[.int .i64 s] 2 → Calls Try.prog 120 #[.int .i64 n, .int .i64 m, .pointer (some ⟨p, 0, none⟩)] W fun e w' => ∃ v, e = .returned (Fx 1 v 0) ∧ OwS 2 W.heap.size w'.heap.size w' v 0 (fun i => .int .i64 0) ∧ Within p (p + 1) W w' ∧ Blk w' p #[.int .i64 0] 2) := fun W hW => draw_any hC p W hW
  obtain ⟨w0, hw0⟩ : ∃ W, W = w.alloc (.cells #[.int .i64 0, .int .i64 0, .int .i64 0, .int .i64 0] 52) := ⟨_, rfl⟩
  have H0 : Hid (Blk w0 p #[.int .i64 s] 2 ∧ Blk w0 w.heap.size #[.int .i64 0, .int .i64 0, .int .i64 0, .int .i64 0] 52 ∧ Below w.heap.size w w0) := by
    rw [hw0]
    exact ⟨h.alloc _, Blk.new rfl, (Below.refl _ _).alloc (Nat.le_refl _) _⟩
  clear hC h
  go_enter Try.func85, Try.ntmps85
  go_upto_region 1 with fail
  rw [← hw0]
  clear hw0
  go_wp2_with fail
  refine (HC.out w0 H0.out.1).mono ?_
  rintro e w1 ⟨v, rfl, ho, wi, hb⟩
  obtain ⟨ao, cap, rfl⟩ := ho.form
  obtain ⟨w2, hw2⟩ : ∃ W, W = w1.alloc (.cells #[.int .i64 1, .slice ao 0 cap, .int .i64 0] 57) := ⟨_, rfl⟩
  have b2 : Below w1.heap.size w1 w2 := by rw [hw2]; exact (Below.refl _ _).alloc (Nat.le_refl _) _
  have z1 : w.heap.size < w1.heap.size := Nat.lt_of_lt_of_le H0.out.2.1.lt wi.below.size
  have H2 : Hid (Blk w2 p #[.int .i64 0] 2 ∧ Blk w2 w.heap.size #[.int .i64 0, .int .i64 0, .int .i64 0, .int .i64 0] 52 ∧ Within p (p + 1) w w2) := by
    refine ⟨hb.later b2, (H0.out.2.1.under wi (by omega)).later b2, ?_⟩
    exact (((Within.refl p (p + 1) w).later H0.out.2.2 (by omega)).trans wi).later b2 (by omega)
  have g0 : w2.cell? ⟨w1.heap.size, 0, none⟩ = some (.int .i64 1) := by rw [hw2]; exact (Blk.new rfl).cell (j := 0) rfl
  clear ho wi hb H0 HC b2
  go_upto_region 2 with fail
  rw [← hw2]
  clear hw2
  have d0 := H2.out.2.1.cell (j := 0) (v := .int .i64 0) rfl
  have f0 := H2.out.2.1.frozen 0
  have d1 := H2.out.2.1.cell (j := 1) (v := .int .i64 0) rfl
  have f1 := H2.out.2.1.frozen 1
  have d2 := H2.out.2.1.cell (j := 2) (v := .int .i64 0) rfl
  have f2 := H2.out.2.1.frozen 2
  have d3 := H2.out.2.1.cell (j := 3) (v := .int .i64 0) rfl
  have f3 := H2.out.2.1.frozen 3
  have n1 : ¬ w.heap.size = w1.heap.size := by omega
  have n2 : ¬ w1.heap.size = w.heap.size := by omega
  go_wp2
  refine bodyPost_ret (v := Kv 1 0 0 0) (by simp [results, Try.results85, go_sem, d0, d1, d2, d3]) rfl ⟨rfl, ?_, ?_⟩
  · obtain ⟨h1, h2, h3⟩ := H2.out
    refine ⟨(((h3.below.setCell (by simp; omega) _).setCell (by simp; omega) _).setCell (by simp; omega) _).setCell (by simp; omega) _, fun k hk hs => ?_⟩
    rw [Below.heap_setCell _ _ _ _ (by simp; omega), Below.heap_setCell _ _ _ _ (by simp; omega), Below.heap_setCell _ _ _ _ (by simp; omega), Below.heap_setCell _ _ _ _ (by simp; omega)]
    exact h3.above k hk hs
  · exact (((H2.out.1.setOther (by simp; omega) _).setOther (by simp; omega) _).setOther (by simp; omega) _).setOther (by simp; omega) _
set_option maxRecDepth 20000 in
set_option maxHeartbeats 3200000 in
theorem splitBy_good {s m num : Int} {n : Nat} (hg : Sgood n num m s) (p : Nat) (w : World) (h : Blk w p #[.int .i64 s] 2) :
    Calls Try.prog 85 #[Kl p, .int .i64 (n : Int), .int .i64 num, .int .i64 m] w fun e w' => e = .returned (Kv 0 (ca s m num n) ((n : Int) - ca s m num n) (cx s n)) ∧ Within p (p + 1) w w' ∧ Blk w' p #[.int .i64 (cx s n)] 2 := by
  have hp := h.lt
  have HC : Hid (∀ W, Blk W p #[.int .i64 s] 2 → Calls Try.prog 120 #[.int .i64 (n : Int), .int .i64 m, .pointer (some ⟨p, 0, none⟩)] W fun e w' => ∃ v, e = .returned (Fx 0 v (cx s n)) ∧ OwS 2 W.heap.size w'.heap.size w' v n (fun i => .int .i64 (cx s (i + 1) % m)) ∧ Within p (p + 1) W w' ∧ Blk w' p #[.int .i64 (cx s n)] 2) := fun W hW => draw_any (fun W => iCoins_good s m n hg.ck W) p W hW
  have hn : n ≤ 4096 := by have := hg.n1; omega
  have HB : Hid (∀ k, 0 ≤ ca s m num k ∧ ca s m num k ≤ k) := ca_bd s m num
  obtain ⟨L, hL⟩ : ∃ L, L = cx s n := ⟨_, rfl⟩
  obtain ⟨E, hE⟩ : ∃ L, L = ca s m num n := ⟨_, rfl⟩
  rw [← hL] at HC ⊢
  rw [← hE]
  have HE : Hid (E = ca s m num n) := hE
  clear hL hE hg
  obtain ⟨w0, hw0⟩ : ∃ W, W = w.alloc (.cells #[.int .i64 0, .int .i64 0, .int .i64 0, .int .i64 0] 52) := ⟨_, rfl⟩
  have H0 : Hid (Blk w0 p #[.int .i64 s] 2 ∧ Blk w0 w.heap.size #[.int .i64 0, .int .i64 0, .int .i64 0, .int .i64 0] 52 ∧ Below w.heap.size w w0) := by
    rw [hw0]
    exact ⟨h.alloc _, Blk.new rfl, (Below.refl _ _).alloc (Nat.le_refl _) _⟩
  clear h
  go_enter Try.func85, Try.ntmps85
  go_upto_region 1 with fail
  rw [← hw0]
  clear hw0
  go_wp2_with fail
  refine (HC.out w0 H0.out.1).mono ?_
  rintro e w1 ⟨v, rfl, ho, wi, hb⟩
  obtain ⟨ao, cap, rfl⟩ := ho.form
  obtain ⟨w2, hw2⟩ : ∃ W, W = (w1.alloc (.cells #[.int .i64 0, .slice ao n cap, .int .i64 L] 57)).alloc (.cells #[.int .i64 0, .int .i64 0, .int .i64 0, .int .i64 L] 52) := ⟨_, rfl⟩
  have b2 : Below w1.heap.size w1 w2 := by rw [hw2]; exact ((Below.refl _ _).alloc (Nat.le_refl _) _).alloc (by simp) _
  have z1 : w.heap.size < w1.heap.size := Nat.lt_of_lt_of_le H0.out.2.1.lt wi.below.size
  have H2 : Hid (Blk w2 p #[.int .i64 L] 2 ∧ Blk w2 w.heap.size #[.int .i64 0, .int .i64 0, .int .i64 0, .int .i64 0] 52 ∧ Within p (p + 1) w w2 ∧ Blk w2 (w1.heap.size + 1) #[.int .i64 0, .int .i64 0, .int .i64 0, .int .i64 L] 52 ∧ OwS 2 w.heap.size w1.heap.size w2 (.slice ao n cap) n (fun i => .int .i64 (cx s (i + 1) % m))) := by
    refine ⟨hb.later b2, (H0.out.2.1.under wi (by omega)).later b2, (((Within.refl p (p + 1) w).later H0.out.2.2 (by omega)).trans wi).later b2 (by omega), by rw [hw2]; exact Blk.new (by simp), ?_⟩
    rcases ho.later b2 with ⟨e1, e2⟩ | ⟨g, cp, e1, q1, q2, q3⟩
    · exact Or.inl ⟨e1, e2⟩
    · exact Or.inr ⟨g, cp, e1, by have := H0.out.2.2.size; omega, q2, q3⟩
  have g0 : (w1.alloc (.cells #[.int .i64 0, .slice ao n cap, .int .i64 L] 57)).cell? ⟨w1.heap.size, 0, none⟩ = some (.int .i64 0) := (Blk.new rfl).cell (j := 0) rfl
  have g1 : w2.cell? ⟨w1.heap.size, 1, none⟩ = some (.slice ao n cap) := by rw [hw2]; exact ((Blk.new rfl).alloc _).cell (j := 1) rfl
  clear ho wi hb H0 HC b2
  go_upto_region 5 with fail
  rw [← hw2]
  clear hw2
  go_wp2_with fail
  go_loopw [29] (fun i wr => ∃ k : Nat, k ≤ n ∧ i = .int .i64 (k : Int) ∧ Hid (Blk wr p #[.int .i64 L] 2 ∧ Blk wr w.heap.size #[.int .i64 0, .int .i64 0, .int .i64 0, .int .i64 0] 52 ∧ Within p (p + 1) w wr ∧ Blk wr (w1.heap.size + 1) #[.int .i64 0, .int .i64 (ca s m num k), .int .i64 ((k : Int) - ca s m num k), .int .i64 L] 52 ∧ OwS 2 w.heap.size w1.heap.size wr (.slice ao n cap) n (fun i => .int .i64 (cx s (i + 1) % m)))) (fun i _ => n - (intOf i).toNat)
  case atStart => exact ⟨0, Nat.zero_le _, rfl, H2⟩
  case round =>
    obtain ⟨k, hk, rfl, HK⟩ := hrel
    clear H2 g0 g1
    by_cases hkn : k < n
    · obtain ⟨h1, h2, h3, h4, h5⟩ := HK.out
      rcases h5 with ⟨e1, e2⟩ | ⟨g, cp, e1, q1, q2, q3⟩
      · omega
      cases e1
      have k1 := q3.cell (i := k) hkn
      rw [Nat.zero_add] at k1
      have c1 := h4.cell (j := 1) (v := .int .i64 (ca s m num k)) rfl
      have c2 := h4.cell (j := 2) (v := .int .i64 ((k : Int) - ca s m num k)) rfl
      have f1 := h4.frozen 1
      have f2 := h4.frozen 2
      have HS : Hid (Seg wr g 2 0 n (fun i => .int .i64 (cx s (i + 1) % m))) := q3
      have hb := HB.out k
      have hN : ca s m num (k + 1) = ca s m num k + (if cx s (k + 1) % m < num then 1 else 0) := rfl
      obtain ⟨X, hX⟩ : ∃ X, X = cx s (k + 1) % m := ⟨_, rfl⟩
      obtain ⟨A, hA⟩ : ∃ X, X = ca s m num k := ⟨_, rfl⟩
      have HA : Hid (A = ca s m num k) := hA
      rw [← hX] at k1 hN
      rw [← hA] at c1 c2 hb hN
      clear hX hA h1 h2 h3 h4 q3
      by_cases hlt : X < num
      · rw [if_pos hlt] at hN
        have HN : Hid (ca s m num (k + 1) = A + 1) := hN
        clear hN
        go_wp2
        go_roundw
        case rel =>
          obtain ⟨h1, h2, h3, h4, h5⟩ := HK.out
          rw [← HA.out] at h4
          refine ⟨k + 1, by omega, by simp, h1.setOther (by simp; omega) _, h2.setOther (by simp; omega) _, ?_, ?_, ?_⟩
          · refine ⟨h3.below.setCell (by simp; omega) _, fun j hj hs => ?_⟩
            rw [Below.heap_setCell _ _ _ _ (by simp; omega)]
            exact h3.above j hj hs
          · rw [HN.out]
            exact h4.set 1 _ (by simp; omega)
          · exact Or.inr ⟨g, _, rfl, q1, q2, HS.out.setOther (by simp; omega) _⟩
        case measure => simp [intOf]; omega
      · rw [if_neg hlt] at hN
        have HN : Hid (ca s m num (k + 1) = A) := by show _ = _; rw [hN]; simp
        clear hN
        go_wp2
        go_roundw
        case rel =>
          obtain ⟨h1, h2, h3, h4, h5⟩ := HK.out
          rw [← HA.out] at h4
          refine ⟨k + 1, by omega, by simp, h1.setOther (by simp; omega) _, h2.setOther (by simp; omega) _, ?_, ?_, ?_⟩
          · refine ⟨h3.below.setCell (by simp; omega) _, fun j hj hs => ?_⟩
            rw [Below.heap_setCell _ _ _ _ (by simp; omega)]
            exact h3.above j hj hs
          · rw [HN.out]
            exact h4.set 2 _ (by simp; omega)
          · exact Or.inr ⟨g, _, rfl, q1, q2, HS.out.setOther (by simp; omega) _⟩
        case measure => simp [intOf]; omega
    · obtain rfl : k = n := by omega
      obtain ⟨h1, h2, h3, h4, h5⟩ := HK.out
      rw [← HE.out] at h4
      have c0 := h4.cell (j := 0) (v := .int .i64 0) rfl
      have c1 := h4.cell (j := 1) (v := .int .i64 E) rfl
      have c2 := h4.cell (j := 2) (v := .int .i64 ((k : Int) - E)) rfl
      have c3 := h4.cell (j := 3) (v := .int .i64 L) rfl
      have d0 := h2.cell (j := 0) (v := .int .i64 0) rfl
      have f0 := h2.frozen 0
      have d1 := h2.cell (j := 1) (v := .int .i64 0) rfl
      have f1 := h2.frozen 1
      have d2 := h2.cell (j := 2) (v := .int .i64 0) rfl
      have f2 := h2.frozen 2
      have d3 := h2.cell (j := 3) (v := .int .i64 0) rfl
      have f3 := h2.frozen 3
      clear h1 h2 h3 h4 h5 HB HE
      go_wp2
      obtain ⟨h1, h2, h3, h4, h5⟩ := HK.out
      refine bodyPost_ret (v := Kv 0 E ((k : Int) - E) L) (by simp [results, Try.results85, go_sem, d0, d1, d2, d3]) rfl ⟨rfl, ?_, ?_⟩
      · refine ⟨(((h3.below.setCell (by simp; omega) _).setCell (by simp; omega) _).setCell (by simp; omega) _).setCell (by simp; omega) _, fun k hk hs => ?_⟩
        rw [Below.heap_setCell _ _ _ _ (by simp; omega), Below.heap_setCell _ _ _ _ (by simp; omega), Below.heap_setCell _ _ _ _ (by simp; omega), Below.heap_setCell _ _ _ _ (by simp; omega)]
        exact h3.above k hk hs
      · exact (((h1.setOther (by simp; omega) _).setOther (by simp; omega) _).setOther (by simp; omega) _).setOther (by simp; omega) _
end Go.Proofs.Ytkkajcdjkfbcgaa
