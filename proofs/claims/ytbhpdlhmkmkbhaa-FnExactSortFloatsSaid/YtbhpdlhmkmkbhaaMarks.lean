/- The laws' own marks in a list of floats: numbers from k on are written and found there again: contracts. -/
import Derived.Test.YtbhpdlhmkmkbhaaSSortG
namespace Go.Proofs.Ytbhpdlhmkmkbhaa
open Go.RowKit Fl Sr
set_option linter.unusedVariables false
/-- The float of the number k. -/
abbrev mk (k : Int) : Nat := floatOfInt .f64 k
theorem mk_self {k : Int} (h0 : 0 ≤ k) (h1 : k ≤ 1000000000000) : FloatKind.f64.format.order (mk k) (mk k) = some .eq := by
  obtain ⟨n, rfl⟩ := Int.eq_ofNat_of_zero_le h0
  rw [mk, floatOfInt_F]
  obtain ⟨r, r1, r2, _⟩ := rep_word (rep_int (m := n) (by omega)) false
  refine order_self' (Ieee.double.nearest_lt false n 0) ?_
  rw [r2, dW_false]
  unfold Num
  omega
set_option maxHeartbeats 800000 in
theorem markF_any (b n cap : Nat) (z : Nat → Nat) (k0 : Int) (w : World) (h0 : 0 ≤ k0) (h1 : k0 + n ≤ 1000000000000) (hs0 : Seg w b 24 0 n (fun i => .float .f64 (z i))) :
    Calls Try.prog 39 #[.slice (some ⟨b, 0, none⟩) n cap, .int .i64 k0] w fun e w' => e = .returned (.int .i64 (k0 + n)) ∧
      Seg w' b 24 0 n (fun i => .float .f64 (mk (k0 + i))) ∧ Within b (b + 1) w w' ∧ w'.heap.size = w.heap.size := by
  have hst := st64
  go_enter Try.func39, Try.ntmps39
  go_wp2_with fail
  go_loopw [1, 5] (fun q i wr => ∃ k : Nat, k ≤ n ∧ i = .int .i64 k ∧ q = .int .i64 (k0 + k) ∧ Seg wr b 24 0 n (fun j => if j < k then .float .f64 (mk (k0 + j)) else .float .f64 (z j)) ∧ Within b (b + 1) w wr ∧ wr.heap.size = w.heap.size) (fun _ i _ => n - (intOf i).toNat)
  case atStart => exact ⟨0, Nat.zero_le _, rfl, by simp, hs0.congr (fun j _ => by simp), Within.refl _ _ _, rfl⟩
  case round =>
    obtain ⟨k, hk, rfl, rfl, hs, hb, hz⟩ := hrel
    clear hs0
    by_cases hkn : k < n
    · have g2 : wr.cell? ⟨b, k, none⟩ = some (.float .f64 (z k)) := by simpa using hs.cell hkn
      have g3 : wr.frozen? ⟨b, k, none⟩ = false := hs.frozen k
      have HS : Hid (Seg wr b 24 0 n (fun j => if j < k then .float .f64 (mk (k0 + j)) else .float .f64 (z j)) ∧ Within b (b + 1) w wr ∧ wr.heap.size = w.heap.size) := ⟨hs, hb, hz⟩
      clear hs hb hz
      go_wp2
      go_roundw
      case rel =>
        obtain ⟨hs, hb, hz⟩ := HS.out
        refine ⟨k + 1, by omega, by simp, by simp; omega, ?_, hb.setCell (Nat.le_refl _) (Nat.lt_succ_self _) _, by simpa using hz⟩
        have := hs.set k hkn (.float .f64 (mk (k0 + k)))
        rw [Nat.zero_add] at this
        refine this.congr fun j hj => ?_
        by_cases e : j = k
        · subst e; simp
        · by_cases e2 : j < k
          · simp [e, e2, Nat.lt_succ_of_lt e2]
          · simp [e, e2]; intro h; omega
      case measure => simp [intOf]; omega
    · obtain rfl : k = n := by omega
      go_wp2
      go_ret
      exact ⟨rfl, hs.congr fun j hj => by simp [hj], hb, hz⟩
set_option maxHeartbeats 800000 in
theorem heldF_any (b n cap : Nat) (k0 : Int) (w : World) (h0 : 0 ≤ k0) (h1 : k0 + n ≤ 1000000000000) (hc : ∀ i : Nat, i < n → w.cell? ⟨b, i, none⟩ = some (.float .f64 (mk (k0 + i)))) :
    Calls Try.prog 40 #[.slice (some ⟨b, 0, none⟩) n cap, .int .i64 k0] w fun e w' => e = .returned (.int .i64 (k0 + n)) ∧ w = w' := by
  go_enter Try.func40, Try.ntmps40
  go_wp2_with fail
  go_loopw [1, 5] (fun q i wr => wr = w ∧ ∃ k : Nat, k ≤ n ∧ i = .int .i64 k ∧ q = .int .i64 (k0 + k)) (fun _ i _ => n - (intOf i).toNat)
  case atStart => exact ⟨rfl, 0, Nat.zero_le _, rfl, by simp⟩
  case round =>
    obtain ⟨rfl, k, hk, rfl, rfl⟩ := hrel
    by_cases hkn : k < n
    · have g := hc k hkn
      have ho := mk_self (k := k0 + k) (by omega) (by omega)
      clear hc
      go_wp2
      go_roundw
      case rel => exact ⟨by trivial, k + 1, by omega, by simp, by simp; omega⟩
      case measure => simp [intOf]; omega
    · obtain rfl : k = n := by omega
      clear hc
      go_wp2
      go_ret
      exact ⟨rfl, rfl⟩
theorem Seg.within {w w' : World} {k b : Nat} {t : TypeId} {off n : Nat} {f : Nat → Value} (h : Seg w k t off n f) (hw : Within b (b + 1) w w') (hne : k ≠ b) : Seg w' k t off n f := by
  refine h.of_block ?_
  by_cases c : k < b
  · exact hw.below.block k c
  · exact hw.above k (by omega) h.lt
/-- Two sorted copies of one list are the same float by float, all NaNs being one. -/
theorem sorted_same {n : Nat} {f g h : Nat → Nat} (p : Pm 0 n f g) (q : Pm 0 n f h) (sg : Srt rk 0 n g) (sh : Srt rk 0 n h) (lg : ∀ i, i < n → g i < 18446744073709551616) (lh : ∀ i, i < n → h i < 18446744073709551616) :
    ∀ i, i < n → g i < 18446744073709551616 ∧ h i < 18446744073709551616 ∧ cl (g i) = cl (h i) := fun i hi => by
  refine ⟨lg i hi, lh i hi, ?_⟩
  have := rk_inj (lg i hi) (lh i hi) (same_keys p q sg sh i hi)
  rw [← cl_fb (g i), ← cl_fb (h i), this]
end Go.Proofs.Ytbhpdlhmkmkbhaa
