/- The drawing of a turn out of bytes: whatever the bytes are, some int64 is drawn and only new memory is touched: contracts. -/
import Derived.Test.YtnmkbhallidgaaaDraws
namespace Go.Proofs.Ytnmkbhallidgaaa
open Go.RowKit Fl
set_option linter.unusedVariables false
set_option linter.unusedSimpArgs false
set_option maxHeartbeats 1600000 in
theorem pick_any {w0 w : World} {v : Value} {a : Int} {p b : Nat} (z : Nat → Int) (hS : Src w0 w v a p) (HN : Hid (Nexts w0 v p)) (ha : 0 ≤ a) (ha2 : a ≤ 1000) (hb : b ≠ p) (hc : ∀ i, i < 6 → w.cell? ⟨b, i, none⟩ = some (.int .i64 (z i))) :
    Calls Try.prog 58 #[.pointer (some ⟨p, 0, none⟩), .slice (some ⟨b, 0, none⟩) 6 6] w fun e w' => ∃ i, i < 6 ∧ e = .returned (.int .i64 (z i)) ∧ Below w0.heap.size w0 w' := by
  have HS : Hid (Src w0 w v a p) := hS
  have HC : Hid (∀ i, i < 6 → w.cell? ⟨b, i, none⟩ = some (.int .i64 (z i))) := hc
  clear hS hc
  go_enter Try.func58, Try.ntmps58
  go_wp2_with fail
  refine (HN.out _ a 6 HS.out ha ha2 (by omega) (by omega)).mono ?_
  rintro e w1 ⟨r, rfl, r0, r1, hS1, hk⟩
  obtain ⟨k, rfl⟩ := Int.eq_ofNat_of_zero_le r0
  have hk6 : k < 6 := by omega
  have hx : w1.cell? ⟨b, k, none⟩ = some (.int .i64 (z k)) := by
    rw [← HC.out k hk6]
    simp only [World.cell?]
    rw [hk b hb]
  have HB : Hid (Below w0.heap.size w0 w1) := hS1.below
  clear hS1 hk HS HC HN
  go_wp2
  go_ret
  exact ⟨k, hk6, rfl, HB.out⟩
set_option maxHeartbeats 1600000 in
theorem drawT_any {w : World} {v : Value} {n : Nat} {g : Nat → Int} (hB : RdB w v n g) (hg : ∀ i, i < n → 0 ≤ g i ∧ g i ≤ 255) (hn : n ≤ 1000000000000) :
    Calls Try.prog 18 #[v] w fun e w' => ∃ t : Int, e = .returned (.int .i64 t) ∧ -9223372036854775808 ≤ t ∧ t ≤ 9223372036854775807 ∧ Below w.heap.size w w' := by
  have HB : Hid (RdB w v n g ∧ ∀ i, i < n → 0 ≤ g i ∧ g i ≤ 255) := ⟨hB, hg⟩
  have HN : Hid (Nexts w v w.heap.size) := fun W a N hS h1 h2 h3 h4 => next_any hS hB hg hn h1 h2 h3 h4
  obtain ⟨ao, cap, rfl⟩ : ∃ ao cap, v = .slice ao n cap := by
    rcases hB with ⟨ao, cap, rfl, rfl⟩ | ⟨b, off, cap, rfl, _⟩
    · exact ⟨ao, cap, rfl⟩
    · exact ⟨_, cap, rfl⟩
  clear hB hg HB
  go_enter Try.func18, Try.ntmps18
  go_wp2_with fail
  refine (source_any ao n cap w).mono ?_
  rintro e w1 ⟨rfl, hw1⟩
  have HS : Hid (Src w w1 (.slice ao n cap) 0 w.heap.size) := by rw [hw1]; exact src_new w _
  clear hw1
  go_wp2_with fail
  refine (HN.out _ 0 1048576 HS.out (by omega) (by omega) (by omega) (by omega)).mono ?_
  rintro e w2 ⟨r, rfl, r0, r1, hS2, _⟩
  have S2 : Hid (Src w w2 (.slice ao n cap) (0 + 1) w.heap.size) := hS2
  clear hS2 HS
  go_wp2_with fail
  refine (HN.out _ (0 + 1) 3145728 S2.out (by omega) (by omega) (by omega) (by omega)).mono ?_
  rintro e w3 ⟨s, rfl, s0, s1, hS3, _⟩
  have S3 : Hid (Src w w3 (.slice ao n cap) (0 + 1 + 1) w.heap.size) := hS3
  clear hS3 S2
  have hp : w.heap.size < w3.heap.size := World.block_lt_of_cell? _ _ S3.out.code
  go_wp2_with fail
  refine (pick_any (fun i => if i = 0 then r else if i = 1 then s - 1048576 else if i = 2 then 0 else if i = 3 then 131072 else if i = 4 then -9223372036854775808 else 9223372036854775807) (S3.out.alloc _) HN (by omega) (by omega) (Nat.ne_of_gt hp) ?_).mono ?_
  · intro i hi
    have h : i = 0 ∨ i = 1 ∨ i = 2 ∨ i = 3 ∨ i = 4 ∨ i = 5 := by omega
    rcases h with rfl | rfl | rfl | rfl | rfl | rfl <;> simp
  rintro e w4 ⟨i, hi, rfl, hb⟩
  have hz : -9223372036854775808 ≤ (if i = 0 then r else if i = 1 then s - 1048576 else if i = 2 then 0 else if i = 3 then 131072 else if i = 4 then -9223372036854775808 else 9223372036854775807 : Int) ∧ (if i = 0 then r else if i = 1 then s - 1048576 else if i = 2 then 0 else if i = 3 then 131072 else if i = 4 then -9223372036854775808 else 9223372036854775807 : Int) ≤ 9223372036854775807 := by
    repeat' split
    all_goals omega
  dsimp only
  generalize (if i = 0 then r else if i = 1 then s - 1048576 else if i = 2 then 0 else if i = 3 then 131072 else if i = 4 then -9223372036854775808 else 9223372036854775807 : Int) = z at hz ⊢
  go_wp2
  go_ret
  exact ⟨z, rfl, hz.1, hz.2, hb⟩
end Go.Proofs.Ytnmkbhallidgaaa
