/- Coins: what they are, plainly; both packages. -/
import Derived.Test.YtgidoceflkdklaaPv
namespace Go.Proofs.Ytgidoceflkdklaa
open Go.RowKit Fl
set_option linter.unusedVariables false
set_option linter.unusedSimpArgs false
/-- The seed behind k coins. -/
def cx (s : Int) : Nat → Int
  | 0 => s
  | k + 1 => (48271 * cx s k + 11) % 2147483647
theorem cx_bd {s : Int} (h0 : 0 ≤ s) (h1 : s < 2147483647) : ∀ k, 0 ≤ cx s k ∧ cx s k < 2147483647
  | 0 => ⟨h0, h1⟩
  | k + 1 => by unfold cx; omega
structure Ck (s n m : Int) : Prop where
  n0 : 0 ≤ n
  n1 : n ≤ 4096
  m0 : 1 ≤ m
  m1 : m ≤ 1000000000
  s0 : 0 ≤ s
  s1 : s < 2147483647
set_option maxRecDepth 20000 in
set_option maxHeartbeats 3200000 in
theorem iCoins_bad (s n m : Int) (h : ¬ Ck s n m) (w : World) : FX 16 #[.int .i64 s, .int .i64 n, .int .i64 m] w 1 0 (fun _ => 0) 0 := by
  have HG : Hid (¬ Ck s n m) := h
  clear h
  unfold FX
  go_enter Try.func16, Try.ntmps16
  by_cases h0 : n < 0
  · go_wp2
    refine bodyPost_ret (v := Fx 1 (.slice none 0 0) 0) (by simp [results, Try.results16, go_sem]) rfl ⟨_, rfl, Or.inl ⟨rfl, rfl⟩, by go_grown⟩
  by_cases h1 : 4096 < n
  · go_wp2
    refine bodyPost_ret (v := Fx 1 (.slice none 0 0) 0) (by simp [results, Try.results16, go_sem]) rfl ⟨_, rfl, Or.inl ⟨rfl, rfl⟩, by go_grown⟩
  by_cases h2 : m < 1
  · go_wp2
    refine bodyPost_ret (v := Fx 1 (.slice none 0 0) 0) (by simp [results, Try.results16, go_sem]) rfl ⟨_, rfl, Or.inl ⟨rfl, rfl⟩, by go_grown⟩
  by_cases h3 : 1000000000 < m
  · go_wp2
    refine bodyPost_ret (v := Fx 1 (.slice none 0 0) 0) (by simp [results, Try.results16, go_sem]) rfl ⟨_, rfl, Or.inl ⟨rfl, rfl⟩, by go_grown⟩
  by_cases h4 : s < 0
  · go_wp2
    refine bodyPost_ret (v := Fx 1 (.slice none 0 0) 0) (by simp [results, Try.results16, go_sem]) rfl ⟨_, rfl, Or.inl ⟨rfl, rfl⟩, by go_grown⟩
  by_cases h5 : 2147483647 ≤ s
  · go_wp2
    refine bodyPost_ret (v := Fx 1 (.slice none 0 0) 0) (by simp [results, Try.results16, go_sem]) rfl ⟨_, rfl, Or.inl ⟨rfl, rfl⟩, by go_grown⟩
  exact absurd ⟨by omega, by omega, by omega, by omega, by omega, by omega⟩ HG.out
set_option maxRecDepth 20000 in
set_option maxHeartbeats 3200000 in
theorem sCoins_bad (s n m : Int) (h : ¬ Ck s n m) (w : World) : FX 15 #[.int .i64 s, .int .i64 n, .int .i64 m] w 1 0 (fun _ => 0) 0 := by
  have HG : Hid (¬ Ck s n m) := h
  clear h
  unfold FX
  go_enter Try.func15, Try.ntmps15
  by_cases h0 : n < 0
  · go_wp2
    refine bodyPost_ret (v := Fx 1 (.slice none 0 0) 0) (by simp [results, Try.results15, go_sem]) rfl ⟨_, rfl, Or.inl ⟨rfl, rfl⟩, by go_grown⟩
  by_cases h1 : 4096 < n
  · go_wp2
    refine bodyPost_ret (v := Fx 1 (.slice none 0 0) 0) (by simp [results, Try.results15, go_sem]) rfl ⟨_, rfl, Or.inl ⟨rfl, rfl⟩, by go_grown⟩
  by_cases h2 : m < 1
  · go_wp2
    refine bodyPost_ret (v := Fx 1 (.slice none 0 0) 0) (by simp [results, Try.results15, go_sem]) rfl ⟨_, rfl, Or.inl ⟨rfl, rfl⟩, by go_grown⟩
  by_cases h3 : 1000000000 < m
  · go_wp2
    refine bodyPost_ret (v := Fx 1 (.slice none 0 0) 0) (by simp [results, Try.results15, go_sem]) rfl ⟨_, rfl, Or.inl ⟨rfl, rfl⟩, by go_grown⟩
  by_cases h4 : s < 0
  · go_wp2
    refine bodyPost_ret (v := Fx 1 (.slice none 0 0) 0) (by simp [results, Try.results15, go_sem]) rfl ⟨_, rfl, Or.inl ⟨rfl, rfl⟩, by go_grown⟩
  by_cases h5 : 2147483647 ≤ s
  · go_wp2
    refine bodyPost_ret (v := Fx 1 (.slice none 0 0) 0) (by simp [results, Try.results15, go_sem]) rfl ⟨_, rfl, Or.inl ⟨rfl, rfl⟩, by go_grown⟩
  exact absurd ⟨by omega, by omega, by omega, by omega, by omega, by omega⟩ HG.out
set_option maxRecDepth 20000 in
set_option maxHeartbeats 3200000 in
theorem iCoins_good (s m : Int) (n : Nat) (h : Ck s n m) (w : World) : FX 16 #[.int .i64 s, .int .i64 n, .int .i64 m] w 0 n (fun i => cx s (i + 1) % m) (cx s n) := by
  unfold FX
  obtain ⟨-, n1, m0, m1, s0, s1⟩ := h
  have CB : Hid (∀ k, 0 ≤ cx s k ∧ cx s k < 2147483647) := cx_bd s0 s1
  have hn : n ≤ 4096 := by omega
  have hmk := run_make_row' (P := Try.prog) 26 2 (.int .i64 0) 8 Try.underlying26 info2 rfl .i64 .i64 n (by omega) (by omega)
  have hm0 : m ≠ 0 := by omega
  go_enter Try.func16, Try.ntmps16
  go_wp2_with fail
  clear hmk
  go_loopw [8, 37] (fun x i wr => ∃ k : Nat, k ≤ n ∧ i = .int .i64 k ∧ x = .int .i64 (cx s k) ∧ Seg wr (w.heap.size + 1) 2 0 n (fun j => if j < k then .int .i64 (cx s (j + 1) % m) else .int .i64 0) ∧ Below w.heap.size w wr ∧ wr.heap.size = w.heap.size + 2 ∧ Blk wr w.heap.size #[.int .i64 0, .slice none 0 0, .int .i64 0] 28) (fun _ i _ => n - (intOf i).toNat)
  case atStart =>
    refine ⟨0, Nat.zero_le _, rfl, rfl, ?_, ((Below.refl _ _).alloc (Nat.le_refl _) _).alloc (by simp) _, by simp, (Blk.new rfl).alloc _⟩
    have h := seg_made (w.alloc (.cells #[.int .i64 0, .slice none 0 0, .int .i64 0] 28)) (.int .i64 0) n 2
    rw [show (w.alloc (.cells #[.int .i64 0, .slice none 0 0, .int .i64 0] 28)).heap.size = w.heap.size + 1 by simp] at h
    exact h.congr fun j _ => by simp
  case round =>
    obtain ⟨k, hk, rfl, rfl, hs, hb, hz, hbl⟩ := hrel
    by_cases hkn : k < n
    · have g2 : wr.cell? ⟨w.heap.size + 1, k, none⟩ = some (.int .i64 0) := by simpa using hs.cell hkn
      have g3 : wr.frozen? ⟨w.heap.size + 1, k, none⟩ = false := hs.frozen k
      have HS : Hid (Seg wr (w.heap.size + 1) 2 0 n (fun j => if j < k then .int .i64 (cx s (j + 1) % m) else .int .i64 0) ∧ Below w.heap.size w wr ∧ wr.heap.size = w.heap.size + 2 ∧ Blk wr w.heap.size #[.int .i64 0, .slice none 0 0, .int .i64 0] 28) := ⟨hs, hb, hz, hbl⟩
      obtain ⟨hX0, hX1⟩ := CB.out k
      obtain ⟨hY0, hY1⟩ := CB.out (k + 1)
      obtain ⟨X, hXe⟩ : ∃ X, X = cx s k := ⟨_, rfl⟩
      obtain ⟨Y, hYe⟩ : ∃ Y, Y = cx s (k + 1) := ⟨_, rfl⟩
      have r2 : (48271 * X + 11) % 2147483647 = Y := by rw [hXe, hYe]; rfl
      rw [← hXe] at hX0 hX1 ⊢
      rw [← hYe] at hY0 hY1
      have EY : Hid (Y = cx s (k + 1)) := hYe
      clear hXe hYe
      have t2 : (48271 * X + 11).tmod 2147483647 = Y := by rw [Int.tmod_eq_emod_of_nonneg (by omega)]; exact r2
      have t3 : Y.tmod m = Y % m := Int.tmod_eq_emod_of_nonneg hY0
      have hq0 := Int.emod_nonneg Y hm0
      have hq1 := Int.emod_lt_of_pos Y (show 0 < m by omega)
      clear hs hb hz hbl
      go_wp2
      go_roundw
      case rel =>
        obtain ⟨hs, hb, hz, hbl⟩ := HS.out
        refine ⟨k + 1, by omega, by simp, ?_, ?_, hb.setCell (by simp) _, by simpa using hz, hbl.setOther (by simp) _⟩
        · rw [EY.out]
        · have := hs.set k hkn (.int .i64 (Y % m))
          rw [Nat.zero_add] at this
          refine this.congr fun j hj => ?_
          by_cases e : j = k
          · subst e; simp [EY.out]
          · by_cases e2 : j < k
            · simp [e, e2, Nat.lt_succ_of_lt e2]
            · simp [e, e2]; intro h; omega
      case measure => simp [intOf]; omega
    · obtain rfl : k = n := by omega
      have c0 := hbl.cell (j := 0) (v := .int .i64 0) rfl
      have c1 := hbl.cell (j := 1) (v := .slice none 0 0) rfl
      have c2 := hbl.cell (j := 2) (v := .int .i64 0) rfl
      have f0 := hbl.frozen 0
      have f1 := hbl.frozen 1
      have f2 := hbl.frozen 2
      have HS : Hid (Seg wr (w.heap.size + 1) 2 0 k (fun j => if j < k then .int .i64 (cx s (j + 1) % m) else .int .i64 0) ∧ Below w.heap.size w wr ∧ wr.heap.size = w.heap.size + 2 ∧ Blk wr w.heap.size #[.int .i64 0, .slice none 0 0, .int .i64 0] 28) := ⟨hs, hb, hz, hbl⟩
      clear hs hb hz hbl
      go_wp2
      obtain ⟨hs, hb, hz, hbl⟩ := HS.out
      refine bodyPost_ret (v := Fx 0 (.slice (some ⟨w.heap.size + 1, 0, none⟩) k k) (cx s k)) (by simp [results, Try.results16, go_sem, c0, c1, c2]) rfl ⟨_, rfl, Or.inr ⟨w.heap.size + 1, k, rfl, by omega, by simp; omega, ?_⟩, by go_grown⟩
      exact (((hs.setOther (by simp) _).setOther (by simp) _).setOther (by simp) _).congr fun j hj => by simp [hj]
end Go.Proofs.Ytgidoceflkdklaa
