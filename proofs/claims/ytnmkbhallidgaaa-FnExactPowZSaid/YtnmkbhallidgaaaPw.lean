/- Powers of complex numbers: contracts of the specification's and the program's. -/
import Derived.Test.YtnmkbhallidgaaaLen
import Derived.Test.YtnmkbhallidgaaaOwn2
import Derived.Test.YtnmkbhallidgaaaKeeps
import Derived.Deep.DeepCutAuto
namespace Go.Proofs.Ytnmkbhallidgaaa
open Go.RowKit Fl
set_option linter.unusedVariables false
set_option linter.unusedSimpArgs false
/-- The power by the digits of n ahead of the (21 - j)-th place. -/
def pw (z : Option Nat × Option Nat) (n : Nat) : Nat → Option Nat × Option Nat
  | 0 => (cl 4607182418800017408, cl 0)
  | j + 1 => if n / 2 ^ (20 - j) = 0 then (cl 4607182418800017408, cl 0) else if n / 2 ^ (20 - j) % 2 = 1 then mulC (mulC (pw z n j) (pw z n j)) z else mulC (pw z n j) (pw z n j)
theorem pw_none {z : Option Nat × Option Nat} {n : Nat} : ∀ {j : Nat}, n / 2 ^ (21 - j) = 0 → j ≤ 21 → pw z n j = (cl 4607182418800017408, cl 0)
  | 0, _, _ => rfl
  | j + 1, h, hj => by
    unfold pw
    rw [if_pos (by rw [show 20 - j = 21 - (j + 1) by omega]; exact h)]
theorem bit_and {n k : Nat} {N : Int} (hN : N = n) (hn : n ≤ 1000000) : bits .and .i64 (N / 2 ^ k) 1 = ((n / 2 ^ k % 2 : Nat) : Int) := by
  have e : N / 2 ^ k = ((n / 2 ^ k : Nat) : Int) := by rw [hN, Int.natCast_ediv]; simp
  rw [e]
  have h1 : n / 2 ^ k ≤ n := Nat.div_le_self _ _
  generalize n / 2 ^ k = m at h1 ⊢
  have hw : ∀ x : Int, 0 ≤ x → x < 2 ^ 63 → IntKind.i64.wrap x = x := fun x a b => by rw [IntKind.wrap_i64]; omega
  have := bits_mask .i64 63 (by decide) hw 1 (by omega) (m : Int) (by omega) (by omega)
  rw [show (2 : Int) ^ 1 - 1 = 1 by decide, show (2 : Int) ^ 1 = 2 by decide] at this
  rw [this]
  omega
theorem prefix_half {n k : Nat} : n / 2 ^ (k + 1) = n / 2 ^ k / 2 := by rw [Nat.pow_succ, Nat.div_div_eq_div_mul]
set_option maxHeartbeats 6400000 in
theorem sPow_in {c d n : Nat} {q : Option Nat × Option Nat} {N : Int} (hq : Zc c d q) (hN : N = n) (h0N : 0 ≤ N) (hn : N ≤ 1000000) (w : World) : ZV 39 #[Zv c d, .int .i64 N] w (pw q n 21) := by
  unfold ZV
  have hst := st64
  have HN : Hid (N = n) := hN
  have hnn : n ≤ 1000000 := by omega
  have HNN : Hid (n ≤ 1000000) := hnn
  have h0 : Two (w.heap.size + 1) (w.alloc (.cells #[.float .f64 c, .float .f64 d] 28)) (w.heap.size + 1) (w.heap.size + 1 + 1) 2 28 (((w.alloc (.cells #[.float .f64 c, .float .f64 d] 28)).alloc (.cells #[.float .f64 0, .float .f64 0] 28)).alloc (.cells #[.float .f64 4607182418800017408, .float .f64 0] 28)) := by
    have h1 := own_made (X := (w.alloc (.cells #[.float .f64 c, .float .f64 d] 28))) (B := w.heap.size + 1) (t := 28) #[.float .f64 0, .float .f64 0] (by simp)
    have h2 := own_made (X := (w.alloc (.cells #[.float .f64 c, .float .f64 d] 28)).alloc (.cells #[.float .f64 0, .float .f64 0] 28)) (B := w.heap.size + 1) (t := 28) #[.float .f64 4607182418800017408, .float .f64 0] (by simp)
    refine ⟨?_, ⟨h1.below.trans h2.below, by omega, ?_⟩, by omega⟩
    · have := h1.alloc (.cells #[.float .f64 4607182418800017408, .float .f64 0] 28)
      simpa using this
    · have := h2.block
      simpa using this
  have zz : ∀ W, Two (w.heap.size + 1) (w.alloc (.cells #[.float .f64 c, .float .f64 d] 28)) (w.heap.size + 1) (w.heap.size + 1 + 1) 2 28 W → W.cell? ⟨w.heap.size, 0, none⟩ = some (.float .f64 c) ∧ W.cell? ⟨w.heap.size, 1, none⟩ = some (.float .f64 d) := fun W h => ⟨by rw [h.a.below.cell (by simp)]; simp, by rw [h.a.below.cell (by simp)]; simp⟩
  clear hN hnn
  go_enter Try.func39, Try.ntmps39
  go_wp2_with fail
  go_loopw [6, 7] (fun g i wr => ∃ (j x y : Nat) (K : Int), j ≤ 21 ∧ K = 20 - j ∧ i = .int .i64 K ∧ g = .bool (decide (n / 2 ^ (21 - j) ≠ 0)) ∧ Two (w.heap.size + 1) (w.alloc (.cells #[.float .f64 c, .float .f64 d] 28)) (w.heap.size + 1) (w.heap.size + 1 + 1) 2 28 wr ∧ wr.cell? ⟨w.heap.size + 1 + 1, 0, none⟩ = some (.float .f64 x) ∧ wr.cell? ⟨w.heap.size + 1 + 1, 1, none⟩ = some (.float .f64 y) ∧ Zc x y (pw q n j)) (fun _ i _ => (intOf i + 1).toNat)
  case atStart =>
    refine ⟨0, 4607182418800017408, 0, 20, by omega, by omega, rfl, ?_, ?_, ?_, ?_, ⟨by omega, by omega, rfl⟩⟩
    · have := HNN.out
      rw [decide_eq_false]
      simp only [ne_eq, Classical.not_not]
      exact Nat.div_eq_of_lt (by show n < 2097152; omega)
    · exact h0
    · go_simp
    · go_simp
  case round =>
    obtain ⟨j, x, y, K, hj, hK, rfl, rfl, ht, c0, c1, hz⟩ := hrel
    clear h0
    by_cases hk : 0 ≤ K
    · obtain ⟨k, hk'⟩ : ∃ k : Nat, K = k := ⟨K.toNat, by omega⟩
      have hjk : 20 - j = k := by omega
      have hjk1 : 21 - j = k + 1 := by omega
      have hk20 : k ≤ 20 := by omega
      obtain ⟨m, hm⟩ : ∃ m, m = n / 2 ^ k := ⟨_, rfl⟩
      have hB : bits .and .i64 (N / 2 ^ k) 1 = ((m % 2 : Nat) : Int) := by rw [hm]; exact bit_and HN.out HNN.out
      have hprev : n / 2 ^ (21 - j) = m / 2 := by rw [hjk1, prefix_half, hm]
      have hpw : pw q n (j + 1) = if m = 0 then (cl 4607182418800017408, cl 0) else if m % 2 = 1 then mulC (mulC (pw q n j) (pw q n j)) q else mulC (pw q n j) (pw q n j) := by
        rw [hm, ← hjk]; rfl
      have hnext : n / 2 ^ (21 - (j + 1)) = m := by rw [show 21 - (j + 1) = k by omega, hm]
      have HJ : Hid (pw q n (j + 1) = (if m = 0 then (cl 4607182418800017408, cl 0) else if m % 2 = 1 then mulC (mulC (pw q n j) (pw q n j)) q else mulC (pw q n j) (pw q n j)) ∧ n / 2 ^ (21 - (j + 1)) = m ∧ K = 20 - j ∧ K = k ∧ j ≤ 21) := ⟨hpw, hnext, hK, hk', hj⟩
      rw [hprev]
      have h63 : (k : Int) ≤ 64 := by omega
      rw [hk']
      clear hpw hnext hprev hm hjk hjk1 hK hk
      by_cases hm0 : m = 0
      · subst hm0
        have hB' : bits .and .i64 (N / 2 ^ k) 1 = 0 := hB
        have hg : decide (0 / 2 ≠ 0) = false := by decide
        rw [hg]
        have HP : Hid (pw q n j = (cl 4607182418800017408, cl 0)) := by
          have e := HJ.out.2.1
          refine pw_none ?_ HJ.out.2.2.2.2
          have : n / 2 ^ (21 - j) = n / 2 ^ (21 - (j + 1)) / 2 := by rw [show 21 - j = 21 - (j + 1) + 1 by have := HJ.out.2.2; omega, prefix_half]
          rw [this, e]
        clear hB hg zz
        go_wp2
        go_roundw
        case rel => exact ⟨j + 1, x, y, (k : Int) - 1, by have := HJ.out.2.2; omega, by have := HJ.out.2.2; omega, by simp, by rw [HJ.out.2.1]; rfl, ht, c0, c1, by rw [HJ.out.1, if_pos rfl, ← HP.out]; exact hz⟩
        case measure => simp [intOf]
      by_cases hm1 : m % 2 = 1
      · have hB' : bits .and .i64 (N / 2 ^ k) 1 = 1 := by rw [hB, hm1]; rfl
        have HQ : Hid (pw q n (j + 1) = mulC (mulC (pw q n j) (pw q n j)) q) := by
          have e := HJ.out.1
          rw [if_neg hm0, if_pos hm1] at e
          exact e
        obtain ⟨gb, hgb⟩ : ∃ gb : Bool, gb = decide (m / 2 ≠ 0) := ⟨_, rfl⟩
        rw [← hgb]
        clear hB hgb hm1
        cases gb
        · go_wp2_with fail
          refine (sMul_any hz hz _).mono ?_
          rintro e w1 ⟨x1, y1, rfl, hz1, hb1⟩
          have hR1 : Two (w.heap.size + 1) (w.alloc (.cells #[.float .f64 c, .float .f64 d] 28)) (w.heap.size + 1) (w.heap.size + 1 + 1) 2 28 w1 := Two.call ht hb1
          have e0 := Own.cell hR1.b (show 0 < 2 by omega)
          have e1 := Own.cell hR1.b (show 1 < 2 by omega)
          have ef := fun j => Own.frozen hR1.b j
          have HT1 : Hid (Two (w.heap.size + 1) (w.alloc (.cells #[.float .f64 c, .float .f64 d] 28)) (w.heap.size + 1) (w.heap.size + 1 + 1) 2 28 ((w1.setCell ⟨w.heap.size + 1 + 1, 0, none⟩ (.float .f64 x1)).setCell ⟨w.heap.size + 1 + 1, 1, none⟩ (.float .f64 y1))) := (hR1.setB _ _).setB _ _
          have b0 := (zz _ hR1).1
          have b1 := (zz _ hR1).2
          clear ht c0 c1 hb1 hR1
          go_wp2_with fail
          refine (sMul_any hz1 hq _).mono ?_
          rintro e w2 ⟨x2, y2, rfl, hz2, hb2⟩
          have hR2 : Two (w.heap.size + 1) (w.alloc (.cells #[.float .f64 c, .float .f64 d] 28)) (w.heap.size + 1) (w.heap.size + 1 + 1) 2 28 w2 := Two.call HT1.out hb2
          have i0 := Own.cell hR2.b (show 0 < 2 by omega)
          have i1 := Own.cell hR2.b (show 1 < 2 by omega)
          have jf := fun j => Own.frozen hR2.b j
          have HT2 : Hid (Two (w.heap.size + 1) (w.alloc (.cells #[.float .f64 c, .float .f64 d] 28)) (w.heap.size + 1) (w.heap.size + 1 + 1) 2 28 ((w2.setCell ⟨w.heap.size + 1 + 1, 0, none⟩ (.float .f64 x2)).setCell ⟨w.heap.size + 1 + 1, 1, none⟩ (.float .f64 y2))) := (hR2.setB _ _).setB _ _
          clear hb2 hR2 e0 e1 ef b0 b1
          go_wp2
          go_roundw
          case rel => exact ⟨j + 1, x2, y2, (k : Int) - 1, by have := HJ.out.2.2; omega, by have := HJ.out.2.2; omega, by simp, by rw [HJ.out.2.1, decide_eq_true hm0], HT2.out, by go_simp, by go_simp, by rw [HQ.out]; exact hz2⟩
          case measure => simp [intOf]
        · go_wp2_with fail
          refine (sMul_any hz hz _).mono ?_
          rintro e w1 ⟨x1, y1, rfl, hz1, hb1⟩
          have hR1 : Two (w.heap.size + 1) (w.alloc (.cells #[.float .f64 c, .float .f64 d] 28)) (w.heap.size + 1) (w.heap.size + 1 + 1) 2 28 w1 := Two.call ht hb1
          have e0 := Own.cell hR1.b (show 0 < 2 by omega)
          have e1 := Own.cell hR1.b (show 1 < 2 by omega)
          have ef := fun j => Own.frozen hR1.b j
          have HT1 : Hid (Two (w.heap.size + 1) (w.alloc (.cells #[.float .f64 c, .float .f64 d] 28)) (w.heap.size + 1) (w.heap.size + 1 + 1) 2 28 ((w1.setCell ⟨w.heap.size + 1 + 1, 0, none⟩ (.float .f64 x1)).setCell ⟨w.heap.size + 1 + 1, 1, none⟩ (.float .f64 y1))) := (hR1.setB _ _).setB _ _
          have b0 := (zz _ hR1).1
          have b1 := (zz _ hR1).2
          clear ht c0 c1 hb1 hR1
          go_wp2_with fail
          refine (sMul_any hz1 hq _).mono ?_
          rintro e w2 ⟨x2, y2, rfl, hz2, hb2⟩
          have hR2 : Two (w.heap.size + 1) (w.alloc (.cells #[.float .f64 c, .float .f64 d] 28)) (w.heap.size + 1) (w.heap.size + 1 + 1) 2 28 w2 := Two.call HT1.out hb2
          have i0 := Own.cell hR2.b (show 0 < 2 by omega)
          have i1 := Own.cell hR2.b (show 1 < 2 by omega)
          have jf := fun j => Own.frozen hR2.b j
          have HT2 : Hid (Two (w.heap.size + 1) (w.alloc (.cells #[.float .f64 c, .float .f64 d] 28)) (w.heap.size + 1) (w.heap.size + 1 + 1) 2 28 ((w2.setCell ⟨w.heap.size + 1 + 1, 0, none⟩ (.float .f64 x2)).setCell ⟨w.heap.size + 1 + 1, 1, none⟩ (.float .f64 y2))) := (hR2.setB _ _).setB _ _
          clear hb2 hR2 e0 e1 ef b0 b1
          go_wp2
          go_roundw
          case rel => exact ⟨j + 1, x2, y2, (k : Int) - 1, by have := HJ.out.2.2; omega, by have := HJ.out.2.2; omega, by simp, by rw [HJ.out.2.1, decide_eq_true hm0], HT2.out, by go_simp, by go_simp, by rw [HQ.out]; exact hz2⟩
          case measure => simp [intOf]
      · have hB' : bits .and .i64 (N / 2 ^ k) 1 = 0 := by rw [hB]; have : m % 2 = 0 := by omega
                                                          rw [this]; rfl
        have HQ : Hid (pw q n (j + 1) = mulC (pw q n j) (pw q n j)) := by
          have e := HJ.out.1
          rw [if_neg hm0, if_neg hm1] at e
          exact e
        have hg : decide (m / 2 ≠ 0) = true := decide_eq_true (by omega)
        rw [hg]
        clear hB hg hm1
        go_wp2_with fail
        refine (sMul_any hz hz _).mono ?_
        rintro e w1 ⟨x1, y1, rfl, hz1, hb1⟩
        have hR1 : Two (w.heap.size + 1) (w.alloc (.cells #[.float .f64 c, .float .f64 d] 28)) (w.heap.size + 1) (w.heap.size + 1 + 1) 2 28 w1 := Two.call ht hb1
        have e0 := Own.cell hR1.b (show 0 < 2 by omega)
        have e1 := Own.cell hR1.b (show 1 < 2 by omega)
        have ef := fun j => Own.frozen hR1.b j
        have HT1 : Hid (Two (w.heap.size + 1) (w.alloc (.cells #[.float .f64 c, .float .f64 d] 28)) (w.heap.size + 1) (w.heap.size + 1 + 1) 2 28 ((w1.setCell ⟨w.heap.size + 1 + 1, 0, none⟩ (.float .f64 x1)).setCell ⟨w.heap.size + 1 + 1, 1, none⟩ (.float .f64 y1))) := (hR1.setB _ _).setB _ _
        have b0 := (zz _ hR1).1
        have b1 := (zz _ hR1).2
        clear ht c0 c1 hb1 hR1
        go_wp2
        go_roundw
        case rel => exact ⟨j + 1, x1, y1, (k : Int) - 1, by have := HJ.out.2.2; omega, by have := HJ.out.2.2; omega, by simp, by rw [HJ.out.2.1, decide_eq_true hm0], HT1.out, by go_simp, by go_simp, by rw [HQ.out]; exact hz1⟩
        case measure => simp [intOf]
    · obtain rfl : j = 21 := by omega
      have e0 := Own.cell ht.a (show 0 < 2 by omega)
      have e1 := Own.cell ht.a (show 1 < 2 by omega)
      have ef := fun j => Own.frozen ht.a j
      clear zz
      go_wp2
      refine bodyPost_ret (v := Zv _ _) (by simp [results, Try.results39, go_sem, e0, e1] <;> first | exact ⟨rfl, rfl⟩ | rfl) rfl ⟨_, _, rfl, hz, Below.trans ?_ (((ht.setA _ _).setA _ _).a.below.mono (by omega))⟩
      go_grown
set_option maxHeartbeats 800000 in
theorem sPow_out {c d : Nat} {N : Int} (h : N < 0 ∨ 1000000 < N) (w : World) : ZV 39 #[Zv c d, .int .i64 N] w (cl 0, cl 0) := by
  unfold ZV
  have hst := st64
  rcases h with h | h
  · go_enter Try.func39, Try.ntmps39
    go_wp2
    refine bodyPost_ret (v := Zv 0 0) (by simp [results, Try.results39, go_sem]) rfl ⟨0, 0, rfl, ⟨by omega, by omega, rfl⟩, ?_⟩
    go_grown
  · have h2 : ¬ N < 0 := by omega
    go_enter Try.func39, Try.ntmps39
    go_wp2
    refine bodyPost_ret (v := Zv 0 0) (by simp [results, Try.results39, go_sem]) rfl ⟨0, 0, rfl, ⟨by omega, by omega, rfl⟩, ?_⟩
    go_grown
set_option maxHeartbeats 800000 in
theorem iPow_out {c d : Nat} {N : Int} (h : N < 0 ∨ 1000000 < N) (w : World) : ZV 40 #[Zv c d, .int .i64 N] w (cl 0, cl 0) := by
  unfold ZV
  have hst := st64
  rcases h with h | h
  · go_enter Try.func40, Try.ntmps40
    go_wp2
    refine bodyPost_ret (v := Zv 0 0) (by simp [results, Try.results40, go_sem]) rfl ⟨0, 0, rfl, ⟨by omega, by omega, rfl⟩, ?_⟩
    go_grown
  · have h2 : ¬ N < 0 := by omega
    go_enter Try.func40, Try.ntmps40
    go_wp2
    refine bodyPost_ret (v := Zv 0 0) (by simp [results, Try.results40, go_sem]) rfl ⟨0, 0, rfl, ⟨by omega, by omega, rfl⟩, ?_⟩
    go_grown
set_option maxHeartbeats 6400000 in
theorem iPow_in {c d n : Nat} {q : Option Nat × Option Nat} {N : Int} (hq : Zc c d q) (hN : N = n) (h0N : 0 ≤ N) (hn : N ≤ 1000000) (w : World) : ZV 40 #[Zv c d, .int .i64 N] w (pw q n 21) := by
  unfold ZV
  have hst := st64
  have HN : Hid (N = n) := hN
  have hnn : n ≤ 1000000 := by omega
  have HNN : Hid (n ≤ 1000000) := hnn
  have h0 : Two (w.heap.size + 1) (w.alloc (.cells #[.float .f64 c, .float .f64 d] 28)) (w.heap.size + 1) (w.heap.size + 1 + 1) 2 28 (((w.alloc (.cells #[.float .f64 c, .float .f64 d] 28)).alloc (.cells #[.float .f64 0, .float .f64 0] 28)).alloc (.cells #[.float .f64 4607182418800017408, .float .f64 0] 28)) := by
    have h1 := own_made (X := (w.alloc (.cells #[.float .f64 c, .float .f64 d] 28))) (B := w.heap.size + 1) (t := 28) #[.float .f64 0, .float .f64 0] (by simp)
    have h2 := own_made (X := (w.alloc (.cells #[.float .f64 c, .float .f64 d] 28)).alloc (.cells #[.float .f64 0, .float .f64 0] 28)) (B := w.heap.size + 1) (t := 28) #[.float .f64 4607182418800017408, .float .f64 0] (by simp)
    refine ⟨?_, ⟨h1.below.trans h2.below, by omega, ?_⟩, by omega⟩
    · have := h1.alloc (.cells #[.float .f64 4607182418800017408, .float .f64 0] 28)
      simpa using this
    · have := h2.block
      simpa using this
  have zz : ∀ W, Two (w.heap.size + 1) (w.alloc (.cells #[.float .f64 c, .float .f64 d] 28)) (w.heap.size + 1) (w.heap.size + 1 + 1) 2 28 W → W.cell? ⟨w.heap.size, 0, none⟩ = some (.float .f64 c) ∧ W.cell? ⟨w.heap.size, 1, none⟩ = some (.float .f64 d) := fun W h => ⟨by rw [h.a.below.cell (by simp)]; simp, by rw [h.a.below.cell (by simp)]; simp⟩
  clear hN hnn
  go_enter Try.func40, Try.ntmps40
  go_wp2_with fail
  refine (len_any HN.out (by have := HNN.out; omega) _).mono ?_
  rintro e w0 ⟨D, rfl, hD, hD24, rfl⟩
  have hD20 : D ≤ 20 := by
    have h1 := HNN.out
    rcases Nat.lt_or_ge 20 D with h | h
    · exfalso
      have := hD.2 (by omega)
      have h2 : 2 ^ 20 ≤ 2 ^ (D - 1) := Nat.pow_le_pow_right (by omega) (by omega)
      have h3 : (1048576 : Nat) ≤ 2 ^ (D - 1) := h2
      omega
    · exact h
  have HD : Hid (Digits n D) := hD
  clear hD hD24
  obtain ⟨E, hE⟩ : ∃ E : Int, E = D := ⟨_, rfl⟩
  rw [← hE]
  have hE0 : 0 ≤ E := by omega
  have hE20 : E ≤ 20 := by omega
  have HE : Hid (E = D ∧ D ≤ 20) := ⟨hE, hD20⟩
  clear hE hD20
  go_wp2_with fail
  go_loopw [20] (fun i wr => ∃ (t x y : Nat) (I : Int), t ≤ D ∧ I = t ∧ i = .int .i64 I ∧ Two (w.heap.size + 1) (w.alloc (.cells #[.float .f64 c, .float .f64 d] 28)) (w.heap.size + 1) (w.heap.size + 1 + 1) 2 28 wr ∧ wr.cell? ⟨w.heap.size + 1 + 1, 0, none⟩ = some (.float .f64 x) ∧ wr.cell? ⟨w.heap.size + 1 + 1, 1, none⟩ = some (.float .f64 y) ∧ Zc x y (pw q n (21 - D + t))) (fun i _ => D - (intOf i).toNat)
  case atStart =>
    refine ⟨0, 4607182418800017408, 0, 0, by omega, rfl, rfl, ?_, ?_, ?_, ⟨by omega, by omega, ?_⟩⟩
    · exact h0
    · go_simp
    · go_simp
    · rw [pw_none ?_ (by omega)]
      have := HE.out.2
      rw [show 21 - (21 - D + 0) = D by omega]
      exact Nat.div_eq_of_lt HD.out.1
  case round =>
    obtain ⟨t, x, y, I, ht0, hI, rfl, ht, c0, c1, hz⟩ := hrel
    clear h0
    by_cases hk : I < E
    · obtain ⟨k, hk'⟩ : ∃ k : Nat, E - 1 - I = k := ⟨(E - 1 - I).toNat, by omega⟩
      obtain ⟨m, hm⟩ : ∃ m, m = n / 2 ^ k := ⟨_, rfl⟩
      have hkD : D - 1 - t = k := by have := HE.out.1; omega
      have htD : t < D := by have := HE.out.1; omega
      have hm0 : m ≠ 0 := by
        have h1 := HD.out.2 (by omega)
        have h2 : 2 ^ k ≤ 2 ^ (D - 1) := Nat.pow_le_pow_right (by omega) (by omega)
        have h3 : 2 ^ k ≤ n := Nat.le_trans h2 h1
        rw [hm]
        exact Nat.ne_of_gt (Nat.div_pos h3 (Nat.pow_pos (by omega)))
      have hB : bits .and .i64 (N / 2 ^ k) 1 = ((m % 2 : Nat) : Int) := by rw [hm]; exact bit_and HN.out HNN.out
      have hpw : pw q n (21 - D + (t + 1)) = if m % 2 = 1 then mulC (mulC (pw q n (21 - D + t)) (pw q n (21 - D + t))) q else mulC (pw q n (21 - D + t)) (pw q n (21 - D + t)) := by
        have := HE.out.2
        rw [show 21 - D + (t + 1) = (21 - D + t) + 1 by omega]
        show (if n / 2 ^ (20 - (21 - D + t)) = 0 then _ else _) = _
        rw [show 20 - (21 - D + t) = k by omega, ← hm, if_neg hm0]
      have HJ : Hid (I = t ∧ t < D ∧ E = D ∧ E - 1 - I = k) := ⟨hI, htD, HE.out.1, hk'⟩
      have hs0 : 0 ≤ E - 1 - I := by omega
      have hs1 : E - 1 - I ≤ 64 := by omega
      have hs2 : (E - 1 - I).toNat = k := by omega
      clear hm hkD htD hk' hI
      by_cases hm1 : m % 2 = 1
      · have hB' : bits .and .i64 (N / 2 ^ k) 1 = 1 := by rw [hB, hm1]; rfl
        have HQ : Hid (pw q n (21 - D + (t + 1)) = mulC (mulC (pw q n (21 - D + t)) (pw q n (21 - D + t))) q) := by
          rw [if_pos hm1] at hpw; exact hpw
        clear hB hpw hm1
        go_wp2_with fail
        refine (iMul_any hz hz _).mono ?_
        rintro e w1 ⟨x1, y1, rfl, hz1, hb1⟩
        have hR1 : Two (w.heap.size + 1) (w.alloc (.cells #[.float .f64 c, .float .f64 d] 28)) (w.heap.size + 1) (w.heap.size + 1 + 1) 2 28 w1 := Two.call ht hb1
        have e0 := Own.cell hR1.b (show 0 < 2 by omega)
        have e1 := Own.cell hR1.b (show 1 < 2 by omega)
        have ef := fun j => Own.frozen hR1.b j
        have HT1 : Hid (Two (w.heap.size + 1) (w.alloc (.cells #[.float .f64 c, .float .f64 d] 28)) (w.heap.size + 1) (w.heap.size + 1 + 1) 2 28 ((w1.setCell ⟨w.heap.size + 1 + 1, 0, none⟩ (.float .f64 x1)).setCell ⟨w.heap.size + 1 + 1, 1, none⟩ (.float .f64 y1))) := (hR1.setB _ _).setB _ _
        have b0 := (zz _ hR1).1
        have b1 := (zz _ hR1).2
        clear ht c0 c1 hb1 hR1
        go_wp2_with fail
        refine (iMul_any hz1 hq _).mono ?_
        rintro e w2 ⟨x2, y2, rfl, hz2, hb2⟩
        have hR2 : Two (w.heap.size + 1) (w.alloc (.cells #[.float .f64 c, .float .f64 d] 28)) (w.heap.size + 1) (w.heap.size + 1 + 1) 2 28 w2 := Two.call HT1.out hb2
        have i0 := Own.cell hR2.b (show 0 < 2 by omega)
        have i1 := Own.cell hR2.b (show 1 < 2 by omega)
        have jf := fun j => Own.frozen hR2.b j
        have HT2 : Hid (Two (w.heap.size + 1) (w.alloc (.cells #[.float .f64 c, .float .f64 d] 28)) (w.heap.size + 1) (w.heap.size + 1 + 1) 2 28 ((w2.setCell ⟨w.heap.size + 1 + 1, 0, none⟩ (.float .f64 x2)).setCell ⟨w.heap.size + 1 + 1, 1, none⟩ (.float .f64 y2))) := (hR2.setB _ _).setB _ _
        clear hb2 hR2 e0 e1 ef b0 b1
        go_wp2
        go_roundw
        case rel => exact ⟨t + 1, x2, y2, I + 1, by have := HJ.out; omega, by have := HJ.out; omega, by simp, HT2.out, by go_simp, by go_simp, by rw [HQ.out]; exact hz2⟩
        case measure => have := HJ.out; simp [intOf]; omega
      · have hB' : bits .and .i64 (N / 2 ^ k) 1 = 0 := by
          rw [hB]
          have : m % 2 = 0 := by omega
          rw [this]; rfl
        have HQ : Hid (pw q n (21 - D + (t + 1)) = mulC (pw q n (21 - D + t)) (pw q n (21 - D + t))) := by
          rw [if_neg hm1] at hpw; exact hpw
        clear hB hpw hm1
        go_wp2_with fail
        refine (iMul_any hz hz _).mono ?_
        rintro e w1 ⟨x1, y1, rfl, hz1, hb1⟩
        have hR1 : Two (w.heap.size + 1) (w.alloc (.cells #[.float .f64 c, .float .f64 d] 28)) (w.heap.size + 1) (w.heap.size + 1 + 1) 2 28 w1 := Two.call ht hb1
        have e0 := Own.cell hR1.b (show 0 < 2 by omega)
        have e1 := Own.cell hR1.b (show 1 < 2 by omega)
        have ef := fun j => Own.frozen hR1.b j
        have HT1 : Hid (Two (w.heap.size + 1) (w.alloc (.cells #[.float .f64 c, .float .f64 d] 28)) (w.heap.size + 1) (w.heap.size + 1 + 1) 2 28 ((w1.setCell ⟨w.heap.size + 1 + 1, 0, none⟩ (.float .f64 x1)).setCell ⟨w.heap.size + 1 + 1, 1, none⟩ (.float .f64 y1))) := (hR1.setB _ _).setB _ _
        have b0 := (zz _ hR1).1
        have b1 := (zz _ hR1).2
        clear ht c0 c1 hb1 hR1
        go_wp2
        go_roundw
        case rel => exact ⟨t + 1, x1, y1, I + 1, by have := HJ.out; omega, by have := HJ.out; omega, by simp, HT1.out, by go_simp, by go_simp, by rw [HQ.out]; exact hz1⟩
        case measure => have := HJ.out; simp [intOf]; omega
    · have hfin : Zc x y (pw q n 21) := by
        have := HE.out
        rw [show 21 = 21 - D + t by omega]
        exact hz
      clear hz
      have hz := hfin
      clear hfin
      have e0 := Own.cell ht.a (show 0 < 2 by omega)
      have e1 := Own.cell ht.a (show 1 < 2 by omega)
      have ef := fun j => Own.frozen ht.a j
      clear zz
      go_wp2
      refine bodyPost_ret (v := Zv _ _) (by simp [results, Try.results40, go_sem, e0, e1] <;> first | exact ⟨rfl, rfl⟩ | rfl) rfl ⟨_, _, rfl, hz, Below.trans ?_ (((ht.setA _ _).setA _ _).a.below.mono (by omega))⟩
      go_grown
def powK (q : Option Nat × Option Nat) (N : Int) : Option Nat × Option Nat := if 0 ≤ N ∧ N ≤ 1000000 then pw q N.toNat 21 else (cl 0, cl 0)
theorem sPow_any {c d : Nat} {q : Option Nat × Option Nat} (hq : Zc c d q) (N : Int) (w : World) : ZV 39 #[Zv c d, .int .i64 N] w (powK q N) := by
  unfold powK
  by_cases h : 0 ≤ N ∧ N ≤ 1000000
  · rw [if_pos h]; exact sPow_in hq (by omega) h.1 h.2 w
  · rw [if_neg h]; exact sPow_out (by omega) w
theorem iPow_any {c d : Nat} {q : Option Nat × Option Nat} (hq : Zc c d q) (N : Int) (w : World) : ZV 40 #[Zv c d, .int .i64 N] w (powK q N) := by
  unfold powK
  by_cases h : 0 ≤ N ∧ N ≤ 1000000
  · rw [if_pos h]; exact iPow_in hq (by omega) h.1 h.2 w
  · rw [if_neg h]; exact iPow_out (by omega) w
end Go.Proofs.Ytnmkbhallidgaaa
