/- Longer lists of rectangles: marked and held. -/
import Derived.Test.YtclnmikneomccaaLr
namespace Go.Proofs.Ytclnmikneomccaa
open Go.RowKit
set_option linter.unusedVariables false
set_option linter.unusedSimpArgs false
namespace R
set_option maxRecDepth 20000 in
set_option maxHeartbeats 3200000 in
theorem markSp2_some (g n cap : Nat) (k0 : Int) (f : Nat → Nat → Value) (w : World) (hn : n ≤ 2097152) (hk0 : 0 ≤ k0) (hk1 : k0 ≤ 100000000) (hs : SegV w g 68 n 5 f) :
    Calls Try.prog 20 #[.slice (some ⟨g, 0, none⟩) n cap, .int .i64 k0] w fun e w' => e = .returned (.int .i64 (mSp k0 n)) ∧ SegV w' g 68 n 5 (fun i j => scell (msp (mSp k0 i)) j) ∧ Within g (g + 1) w w' ∧ w'.heap.size = w.heap.size := by
  have HS : Hid (SegV w g 68 n 5 f) := hs
  clear hs
  have hnI : (n : Int) ≤ 2097152 := by omega
  go_enter Try.func20, Try.ntmps20
  go_wp2_with fail
  go_loopw [1, 5] (fun s1 s5 wr => ∃ i : Nat, i ≤ n ∧ s1 = .int .i64 (mSp k0 i) ∧ s5 = .int .i64 i ∧ Hid (SegV wr g 68 n 5 (fun a j => if a < i then scell (msp (mSp k0 a)) j else f a j) ∧ Within g (g + 1) w wr ∧ wr.heap.size = w.heap.size)) (fun _ s5 _ => n - (intOf s5).toNat)
  case atStart => exact ⟨0, Nat.zero_le _, by simp [mSp], rfl, HS.out.congr (fun a _ j _ => by simp), Within.refl _ _ _, rfl⟩
  case round =>
    obtain ⟨i, hi, rfl, rfl, HH⟩ := hrel
    by_cases hin : i < n
    · have fz : ∀ j, wr.frozen? ⟨g, j, none⟩ = false := fun j => HH.out.1.frozen j
      have a0 := HH.out.1.cell hin (show 0 < 5 by omega)
      have a1 := HH.out.1.cell hin (show 1 < 5 by omega)
      have a2 := HH.out.1.cell hin (show 2 < 5 by omega)
      have a3 := HH.out.1.cell hin (show 3 < 5 by omega)
      have a4 := HH.out.1.cell hin (show 4 < 5 by omega)
      simp only [Nat.add_zero, Nat.lt_irrefl, if_false] at a0 a1 a2 a3 a4
      have hiI : (i : Int) < n := by omega
      have hKn : mSp k0 (i + 1) = mSp k0 i + 1 + 1 + 1 + 1 + 1 := by unfold mSp; omega
      have hK0 : 0 ≤ mSp k0 i := by unfold mSp; omega
      have hK1 : mSp k0 i ≤ 500000000 := by unfold mSp; omega
      obtain ⟨K, hK⟩ : ∃ K : Int, K = mSp k0 i := ⟨_, rfl⟩
      have HK : Hid (mSp k0 (i + 1) = K + 1 + 1 + 1 + 1 + 1) := by rw [hK]; exact hKn
      rw [← hK] at hK0 hK1 ⊢
      clear hKn
      have HW : Hid (SegV (((((wr.setCell ⟨g, i * 5, none⟩ (.int .i64 (K))).setCell ⟨g, i * 5 + 1, none⟩ (.int .i64 (K + 1))).setCell ⟨g, i * 5 + 2, none⟩ (.int .i64 (K + 1 + 1))).setCell ⟨g, i * 5 + 3, none⟩ (.int .i64 (K + 1 + 1 + 1))).setCell ⟨g, i * 5 + 4, none⟩ (.int .i64 (K + 1 + 1 + 1 + 1))) g 68 n 5 (fun a j => if a < i + 1 then scell (msp (mSp k0 a)) j else f a j) ∧ Within g (g + 1) w (((((wr.setCell ⟨g, i * 5, none⟩ (.int .i64 (K))).setCell ⟨g, i * 5 + 1, none⟩ (.int .i64 (K + 1))).setCell ⟨g, i * 5 + 2, none⟩ (.int .i64 (K + 1 + 1))).setCell ⟨g, i * 5 + 3, none⟩ (.int .i64 (K + 1 + 1 + 1))).setCell ⟨g, i * 5 + 4, none⟩ (.int .i64 (K + 1 + 1 + 1 + 1))) ∧ (((((wr.setCell ⟨g, i * 5, none⟩ (.int .i64 (K))).setCell ⟨g, i * 5 + 1, none⟩ (.int .i64 (K + 1))).setCell ⟨g, i * 5 + 2, none⟩ (.int .i64 (K + 1 + 1))).setCell ⟨g, i * 5 + 3, none⟩ (.int .i64 (K + 1 + 1 + 1))).setCell ⟨g, i * 5 + 4, none⟩ (.int .i64 (K + 1 + 1 + 1 + 1))).heap.size = w.heap.size) := by
        obtain ⟨h1, h2, h4⟩ := HH.out
        have t0 := SegV.set h1 hin (show 0 < 5 by omega) (.int .i64 (K))
        have t1 := SegV.set t0 hin (show 1 < 5 by omega) (.int .i64 (K + 1))
        have t2 := SegV.set t1 hin (show 2 < 5 by omega) (.int .i64 (K + 1 + 1))
        have t3 := SegV.set t2 hin (show 3 < 5 by omega) (.int .i64 (K + 1 + 1 + 1))
        have t4 := SegV.set t3 hin (show 4 < 5 by omega) (.int .i64 (K + 1 + 1 + 1 + 1))
        refine ⟨t4.congr fun a ha j hj => ?_, (((((h2.setCell (Nat.le_refl _) (Nat.lt_succ_self _) _).setCell (Nat.le_refl _) (Nat.lt_succ_self _) _).setCell (Nat.le_refl _) (Nat.lt_succ_self _) _).setCell (Nat.le_refl _) (Nat.lt_succ_self _) _).setCell (Nat.le_refl _) (Nat.lt_succ_self _) _), by simpa using h4⟩
        by_cases c : a = i
        · subst c
          have e3 : a < a + 1 := by omega
          rw [← hK]
          match j, hj with
          | 0, _ => simp [e3, scell, msp]
          | 1, _ => simp [e3, scell, msp]
          | 2, _ => simp [e3, scell, msp]
          | 3, _ => simp [e3, scell, msp]
          | 4, _ => simp [e3, scell, msp]
        · by_cases c2 : a < i
          · simp [c, c2, Nat.lt_succ_of_lt c2]
          · have : ¬ a < i + 1 := by omega
            simp [c, c2, this]
      clear hK HH
      go_wp2
      go_roundw
      case rel =>
        refine ⟨i + 1, by omega, by rw [HK.out], by simp, ?_⟩
        first | exact HW | (simp only [Nat.add_assoc, Nat.reduceAdd]; exact HW)
      case measure => simp [intOf]; omega
    · obtain rfl : i = n := by omega
      go_wp2
      go_ret
      exact ⟨rfl, HH.out.1.congr fun a ha j _ => by simp [ha], HH.out.2⟩
theorem markJ2_any {lo hi N : Nat} {w : World} {v : Value} {S : Nat → G} (h : OwJ lo hi w v N S) (hn : N ≤ 2097152) (hlo : lo ≤ w.heap.size) (hhi : hi ≤ w.heap.size) : Calls Try.prog 20 #[v, .int .i64 1] w fun e w' => ∃ r, e = .returned (.int .i64 r) ∧ MkJ lo hi w' v N r ∧ Within lo hi w w' := by
  rcases h with ⟨rfl, ao, cap, rfl⟩ | ⟨g, cap, rfl, h1, h2, h3⟩
  · refine (markSp_none ao cap 1 w).mono ?_
    rintro e w' ⟨rfl, rfl⟩
    exact ⟨1, rfl, ⟨rfl, Or.inl ⟨rfl, _, _, rfl⟩⟩, Within.refl _ _ _⟩
  · refine (markSp2_some g N cap 1 _ w hn (by omega) (by omega) h3).mono ?_
    rintro e w' ⟨rfl, a1, a2, _⟩
    exact ⟨_, rfl, ⟨rfl, Or.inr ⟨g, cap, rfl, h1, h2, a1⟩⟩, a2.mono h1 h2⟩
set_option maxRecDepth 20000 in
set_option maxHeartbeats 1600000 in
theorem heldSp2_some (g n cap : Nat) (k0 : Int) (w : World) (hn : n ≤ 2097152) (hk0 : 0 ≤ k0) (hk1 : k0 ≤ 100000000) (hs : SegV w g 68 n 5 (fun i j => scell (msp (mSp k0 i)) j)) :
    Calls Try.prog 37 #[.slice (some ⟨g, 0, none⟩) n cap, .int .i64 k0] w fun e w' => e = .returned (.int .i64 (mSp k0 n)) ∧ w = w' := by
  have HS : Hid (SegV w g 68 n 5 (fun i j => scell (msp (mSp k0 i)) j)) := hs
  clear hs
  have hnI : (n : Int) ≤ 2097152 := by omega
  go_enter Try.func37, Try.ntmps37
  go_wp2_with fail
  go_loopw [1, 5] (fun s1 s5 wr => wr = w ∧ ∃ i : Nat, i ≤ n ∧ s1 = .int .i64 (mSp k0 i) ∧ s5 = .int .i64 i) (fun _ s5 _ => n - (intOf s5).toNat)
  case atStart => exact ⟨rfl, 0, Nat.zero_le _, by simp [mSp], rfl⟩
  case round =>
    obtain ⟨hwr, i, hi, rfl, rfl⟩ := hrel
    obtain rfl := hwr.symm
    by_cases hin : i < n
    · have a0 := HS.out.cell hin (show 0 < 5 by omega)
      have a1 := HS.out.cell hin (show 1 < 5 by omega)
      have a2 := HS.out.cell hin (show 2 < 5 by omega)
      have a3 := HS.out.cell hin (show 3 < 5 by omega)
      have a4 := HS.out.cell hin (show 4 < 5 by omega)
      simp only [Nat.add_zero, scell, msp] at a0 a1 a2 a3 a4
      have hiI : (i : Int) < n := by omega
      have hKn : mSp k0 (i + 1) = mSp k0 i + 1 + 1 + 1 + 1 + 1 := by unfold mSp; omega
      have hK0 : 0 ≤ mSp k0 i := by unfold mSp; omega
      have hK1 : mSp k0 i ≤ 500000000 := by unfold mSp; omega
      obtain ⟨K, hK⟩ : ∃ K : Int, K = mSp k0 i := ⟨_, rfl⟩
      have HK : Hid (mSp k0 (i + 1) = K + 1 + 1 + 1 + 1 + 1) := by rw [hK]; exact hKn
      rw [← hK] at hK0 hK1 a0 a1 a2 a3 a4 ⊢
      clear hKn hK
      go_wp2
      go_roundw
      case rel => exact ⟨by trivial, i + 1, by omega, by rw [HK.out], by simp⟩
      case measure => simp [intOf]; omega
    · obtain rfl : i = n := by omega
      go_wp2
      go_ret
      exact ⟨rfl, rfl⟩
theorem heldJ2_any {lo hi N : Nat} {w : World} {v : Value} {r : Int} (h : MkJ lo hi w v N r) (hn : N ≤ 2097152) : Calls Try.prog 37 #[v, .int .i64 1] w fun e w' => e = .returned (.int .i64 r) ∧ Below w.heap.size w w' := by
  obtain ⟨rfl, ⟨rfl, ao, cap, rfl⟩ | ⟨g, cap, rfl, h1, h2, h3⟩⟩ := h
  · exact (heldSp_none ao cap 1 w).mono fun e w' h => ⟨h.1, by rw [← h.2]; exact Below.refl _ _⟩
  · exact (heldSp2_some g N cap 1 w hn (by omega) (by omega) h3).mono fun e w' h => ⟨h.1, by rw [← h.2]; exact Below.refl _ _⟩
end R
end Go.Proofs.Ytclnmikneomccaa
