/- Plain surfaces: the laws' own marks in lists of them. -/
import Derived.Test.YtjibogknakaokaaPa
namespace Go.Proofs.Ytjibogknakaokaa
open Go.RowKit
set_option linter.unusedVariables false
set_option linter.unusedSimpArgs false
/-- The marks of the surface i, the first surface's first one being k. -/
def mK (k i : Nat) : Int := (k : Int) + 11 * i
def mps (K : Int) : Ps := ⟨⟨K, K + 1⟩, ⟨K + 1 + 1, K + 1 + 1 + 1⟩, ⟨K + 1 + 1 + 1 + 1, K + 1 + 1 + 1 + 1 + 1⟩, ⟨K + 1 + 1 + 1 + 1 + 1 + 1, K + 1 + 1 + 1 + 1 + 1 + 1 + 1⟩, ⟨K + 1 + 1 + 1 + 1 + 1 + 1 + 1 + 1, K + 1 + 1 + 1 + 1 + 1 + 1 + 1 + 1 + 1⟩, (K + 1 + 1 + 1 + 1 + 1 + 1 + 1 + 1 + 1 + 1) % 3 == 0⟩
set_option maxRecDepth 20000 in
set_option maxHeartbeats 3200000 in
theorem markPs_some (g n cap k0 : Nat) (f : Nat → Nat → Value) (lo : Nat) (X w : World) (hn : n ≤ 1048576) (hk0 : k0 ≤ 1000000) (hs : SegV w g 101 n 11 f) (hB : Below lo X w) (hlo : lo ≤ g) :
    Calls Try.prog 26 #[.slice (some ⟨g, 0, none⟩) n cap, .int .i64 k0] w fun e w' => e = .returned (.int .i64 (mK k0 n)) ∧ SegV w' g 101 n 11 (fun i j => pcell (mps (mK k0 i)) j) ∧ Below lo X w' ∧ (∀ b, b ≠ g → w'.heap[b]? = w.heap[b]?) ∧ w'.heap.size = w.heap.size := by
  have HS : Hid (SegV w g 101 n 11 f ∧ Below lo X w ∧ lo ≤ g) := ⟨hs, hB, hlo⟩
  clear hs hB hlo
  have hnI : (n : Int) ≤ 1048576 := by omega
  have hkI : (k0 : Int) ≤ 1000000 := by omega
  go_enter Try.func26, Try.ntmps26
  go_wp2_with fail
  go_loopw [1, 5] (fun s1 s5 wr => ∃ i : Nat, i ≤ n ∧ s1 = .int .i64 (mK k0 i) ∧ s5 = .int .i64 i ∧ Hid (SegV wr g 101 n 11 (fun a j => if a < i then pcell (mps (mK k0 a)) j else f a j) ∧ Below lo X wr ∧ (∀ b, b ≠ g → wr.heap[b]? = w.heap[b]?) ∧ wr.heap.size = w.heap.size)) (fun _ s5 _ => n - (intOf s5).toNat)
  case atStart => exact ⟨0, Nat.zero_le _, by simp [mK], rfl, HS.out.1.congr (fun a _ j _ => by simp), HS.out.2.1, fun _ _ => rfl, rfl⟩
  case round =>
    obtain ⟨i, hi, rfl, rfl, HH⟩ := hrel
    by_cases hin : i < n
    · have fz : ∀ j, wr.frozen? ⟨g, j, none⟩ = false := fun j => HH.out.1.frozen j
      have a0 := HH.out.1.cell hin (show 0 < 11 by omega)
      have a1 := HH.out.1.cell hin (show 1 < 11 by omega)
      have a2 := HH.out.1.cell hin (show 2 < 11 by omega)
      have a3 := HH.out.1.cell hin (show 3 < 11 by omega)
      have a4 := HH.out.1.cell hin (show 4 < 11 by omega)
      have a5 := HH.out.1.cell hin (show 5 < 11 by omega)
      have a6 := HH.out.1.cell hin (show 6 < 11 by omega)
      have a7 := HH.out.1.cell hin (show 7 < 11 by omega)
      have a8 := HH.out.1.cell hin (show 8 < 11 by omega)
      have a9 := HH.out.1.cell hin (show 9 < 11 by omega)
      have a10 := HH.out.1.cell hin (show 10 < 11 by omega)
      simp only [Nat.add_zero, Nat.lt_irrefl, if_false] at a0 a1 a2 a3 a4 a5 a6 a7 a8 a9 a10
      have hiI : (i : Int) < n := by omega
      have hKn : mK k0 (i + 1) = mK k0 i + 1 + 1 + 1 + 1 + 1 + 1 + 1 + 1 + 1 + 1 + 1 := by unfold mK; omega
      have hK0 : 0 ≤ mK k0 i := by unfold mK; omega
      have hK1 : mK k0 i ≤ 50000000 := by unfold mK; omega
      obtain ⟨K, hK⟩ : ∃ K : Int, K = mK k0 i := ⟨_, rfl⟩
      have HK : Hid (mK k0 (i + 1) = K + 1 + 1 + 1 + 1 + 1 + 1 + 1 + 1 + 1 + 1 + 1) := by rw [hK]; exact hKn
      rw [← hK] at hK0 hK1 ⊢
      clear hKn
      have HW : Hid (SegV (((((((((((wr.setCell ⟨g, i * 11, none⟩ (.int .i64 (K))).setCell ⟨g, i * 11 + 1, none⟩ (.int .i64 (K + 1))).setCell ⟨g, i * 11 + 2, none⟩ (.int .i64 (K + 1 + 1))).setCell ⟨g, i * 11 + 3, none⟩ (.int .i64 (K + 1 + 1 + 1))).setCell ⟨g, i * 11 + 4, none⟩ (.int .i64 (K + 1 + 1 + 1 + 1))).setCell ⟨g, i * 11 + 5, none⟩ (.int .i64 (K + 1 + 1 + 1 + 1 + 1))).setCell ⟨g, i * 11 + 6, none⟩ (.int .i64 (K + 1 + 1 + 1 + 1 + 1 + 1))).setCell ⟨g, i * 11 + 7, none⟩ (.int .i64 (K + 1 + 1 + 1 + 1 + 1 + 1 + 1))).setCell ⟨g, i * 11 + 8, none⟩ (.int .i64 (K + 1 + 1 + 1 + 1 + 1 + 1 + 1 + 1))).setCell ⟨g, i * 11 + 9, none⟩ (.int .i64 (K + 1 + 1 + 1 + 1 + 1 + 1 + 1 + 1 + 1))).setCell ⟨g, i * 11 + 10, none⟩ (.bool ((K + 1 + 1 + 1 + 1 + 1 + 1 + 1 + 1 + 1 + 1) % 3 == 0))) g 101 n 11 (fun a j => if a < i + 1 then pcell (mps (mK k0 a)) j else f a j) ∧ Below lo X (((((((((((wr.setCell ⟨g, i * 11, none⟩ (.int .i64 (K))).setCell ⟨g, i * 11 + 1, none⟩ (.int .i64 (K + 1))).setCell ⟨g, i * 11 + 2, none⟩ (.int .i64 (K + 1 + 1))).setCell ⟨g, i * 11 + 3, none⟩ (.int .i64 (K + 1 + 1 + 1))).setCell ⟨g, i * 11 + 4, none⟩ (.int .i64 (K + 1 + 1 + 1 + 1))).setCell ⟨g, i * 11 + 5, none⟩ (.int .i64 (K + 1 + 1 + 1 + 1 + 1))).setCell ⟨g, i * 11 + 6, none⟩ (.int .i64 (K + 1 + 1 + 1 + 1 + 1 + 1))).setCell ⟨g, i * 11 + 7, none⟩ (.int .i64 (K + 1 + 1 + 1 + 1 + 1 + 1 + 1))).setCell ⟨g, i * 11 + 8, none⟩ (.int .i64 (K + 1 + 1 + 1 + 1 + 1 + 1 + 1 + 1))).setCell ⟨g, i * 11 + 9, none⟩ (.int .i64 (K + 1 + 1 + 1 + 1 + 1 + 1 + 1 + 1 + 1))).setCell ⟨g, i * 11 + 10, none⟩ (.bool ((K + 1 + 1 + 1 + 1 + 1 + 1 + 1 + 1 + 1 + 1) % 3 == 0))) ∧ (∀ b, b ≠ g → (((((((((((wr.setCell ⟨g, i * 11, none⟩ (.int .i64 (K))).setCell ⟨g, i * 11 + 1, none⟩ (.int .i64 (K + 1))).setCell ⟨g, i * 11 + 2, none⟩ (.int .i64 (K + 1 + 1))).setCell ⟨g, i * 11 + 3, none⟩ (.int .i64 (K + 1 + 1 + 1))).setCell ⟨g, i * 11 + 4, none⟩ (.int .i64 (K + 1 + 1 + 1 + 1))).setCell ⟨g, i * 11 + 5, none⟩ (.int .i64 (K + 1 + 1 + 1 + 1 + 1))).setCell ⟨g, i * 11 + 6, none⟩ (.int .i64 (K + 1 + 1 + 1 + 1 + 1 + 1))).setCell ⟨g, i * 11 + 7, none⟩ (.int .i64 (K + 1 + 1 + 1 + 1 + 1 + 1 + 1))).setCell ⟨g, i * 11 + 8, none⟩ (.int .i64 (K + 1 + 1 + 1 + 1 + 1 + 1 + 1 + 1))).setCell ⟨g, i * 11 + 9, none⟩ (.int .i64 (K + 1 + 1 + 1 + 1 + 1 + 1 + 1 + 1 + 1))).setCell ⟨g, i * 11 + 10, none⟩ (.bool ((K + 1 + 1 + 1 + 1 + 1 + 1 + 1 + 1 + 1 + 1) % 3 == 0))).heap[b]? = w.heap[b]?) ∧ (((((((((((wr.setCell ⟨g, i * 11, none⟩ (.int .i64 (K))).setCell ⟨g, i * 11 + 1, none⟩ (.int .i64 (K + 1))).setCell ⟨g, i * 11 + 2, none⟩ (.int .i64 (K + 1 + 1))).setCell ⟨g, i * 11 + 3, none⟩ (.int .i64 (K + 1 + 1 + 1))).setCell ⟨g, i * 11 + 4, none⟩ (.int .i64 (K + 1 + 1 + 1 + 1))).setCell ⟨g, i * 11 + 5, none⟩ (.int .i64 (K + 1 + 1 + 1 + 1 + 1))).setCell ⟨g, i * 11 + 6, none⟩ (.int .i64 (K + 1 + 1 + 1 + 1 + 1 + 1))).setCell ⟨g, i * 11 + 7, none⟩ (.int .i64 (K + 1 + 1 + 1 + 1 + 1 + 1 + 1))).setCell ⟨g, i * 11 + 8, none⟩ (.int .i64 (K + 1 + 1 + 1 + 1 + 1 + 1 + 1 + 1))).setCell ⟨g, i * 11 + 9, none⟩ (.int .i64 (K + 1 + 1 + 1 + 1 + 1 + 1 + 1 + 1 + 1))).setCell ⟨g, i * 11 + 10, none⟩ (.bool ((K + 1 + 1 + 1 + 1 + 1 + 1 + 1 + 1 + 1 + 1) % 3 == 0))).heap.size = w.heap.size) := by
        obtain ⟨h1, h2, h3, h4⟩ := HH.out
        have hlo := HS.out.2.2
        have t0 := SegV.set h1 hin (show 0 < 11 by omega) (.int .i64 (K))
        have t1 := SegV.set t0 hin (show 1 < 11 by omega) (.int .i64 (K + 1))
        have t2 := SegV.set t1 hin (show 2 < 11 by omega) (.int .i64 (K + 1 + 1))
        have t3 := SegV.set t2 hin (show 3 < 11 by omega) (.int .i64 (K + 1 + 1 + 1))
        have t4 := SegV.set t3 hin (show 4 < 11 by omega) (.int .i64 (K + 1 + 1 + 1 + 1))
        have t5 := SegV.set t4 hin (show 5 < 11 by omega) (.int .i64 (K + 1 + 1 + 1 + 1 + 1))
        have t6 := SegV.set t5 hin (show 6 < 11 by omega) (.int .i64 (K + 1 + 1 + 1 + 1 + 1 + 1))
        have t7 := SegV.set t6 hin (show 7 < 11 by omega) (.int .i64 (K + 1 + 1 + 1 + 1 + 1 + 1 + 1))
        have t8 := SegV.set t7 hin (show 8 < 11 by omega) (.int .i64 (K + 1 + 1 + 1 + 1 + 1 + 1 + 1 + 1))
        have t9 := SegV.set t8 hin (show 9 < 11 by omega) (.int .i64 (K + 1 + 1 + 1 + 1 + 1 + 1 + 1 + 1 + 1))
        have t10 := SegV.set t9 hin (show 10 < 11 by omega) (.bool ((K + 1 + 1 + 1 + 1 + 1 + 1 + 1 + 1 + 1 + 1) % 3 == 0))
        refine ⟨t10.congr fun a ha j hj => ?_, (((((((((((h2.setCell hlo _).setCell hlo _).setCell hlo _).setCell hlo _).setCell hlo _).setCell hlo _).setCell hlo _).setCell hlo _).setCell hlo _).setCell hlo _).setCell hlo _), fun b hb => ?_, ?_⟩
        · by_cases c : a = i
          · subst c
            have e3 : a < a + 1 := by omega
            rw [← hK]
            match j, hj with
            | 0, _ => simp [e3, pcell, mps]
            | 1, _ => simp [e3, pcell, mps]
            | 2, _ => simp [e3, pcell, mps]
            | 3, _ => simp [e3, pcell, mps]
            | 4, _ => simp [e3, pcell, mps]
            | 5, _ => simp [e3, pcell, mps]
            | 6, _ => simp [e3, pcell, mps]
            | 7, _ => simp [e3, pcell, mps]
            | 8, _ => simp [e3, pcell, mps]
            | 9, _ => simp [e3, pcell, mps]
            | 10, _ => simp [e3, pcell, mps]
          · by_cases c2 : a < i
            · simp [c, c2, Nat.lt_succ_of_lt c2]
            · have : ¬ a < i + 1 := by omega
              simp [c, c2, this]
        · rw [Below.heap_setCell _ _ _ _ (by simpa using hb), Below.heap_setCell _ _ _ _ (by simpa using hb), Below.heap_setCell _ _ _ _ (by simpa using hb), Below.heap_setCell _ _ _ _ (by simpa using hb), Below.heap_setCell _ _ _ _ (by simpa using hb), Below.heap_setCell _ _ _ _ (by simpa using hb), Below.heap_setCell _ _ _ _ (by simpa using hb), Below.heap_setCell _ _ _ _ (by simpa using hb), Below.heap_setCell _ _ _ _ (by simpa using hb), Below.heap_setCell _ _ _ _ (by simpa using hb), Below.heap_setCell _ _ _ _ (by simpa using hb)]
          exact h3 b hb
        · simpa using h4
      clear hK HH
      go_wp2
      go_roundw
      case rel =>
        refine ⟨i + 1, by omega, by rw [HK.out], by simp, ?_⟩
        simp only [Nat.add_assoc, Nat.reduceAdd]
        exact HW
      case measure => simp [intOf]; omega
    · obtain rfl : i = n := by omega
      go_wp2
      go_ret
      exact ⟨rfl, HH.out.1.congr fun a ha j _ => by simp [ha], HH.out.2⟩
end Go.Proofs.Ytjibogknakaokaa
