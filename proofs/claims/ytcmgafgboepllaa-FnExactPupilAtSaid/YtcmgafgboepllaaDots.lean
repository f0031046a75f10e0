/- Products of two lists of floats, summed: contracts of the specification's and the program's. -/
import Derived.Test.YtcmgafgboepllaaSums
import Derived.Deep.RegionHeld3
namespace Go.Proofs.Ytcmgafgboepllaa
open Go.RowKit Fl
def dotC (f g : Nat → Nat) : Nat → Option Nat
  | 0 => cl 0
  | k + 1 => opC .add (dotC f g k) (opC .mul (cl (f k)) (cl (g k)))
set_option maxHeartbeats 1600000 in
theorem sDot_any (b off n cap b' off' m cap' : Nat) (f g : Nat → Nat) (w : World) (hn : n ≤ 1000000000000) (hm : m ≤ 1000000000000) (hc : ∀ i, i < n → w.cell? ⟨b, off + i, none⟩ = some (.float .f64 (f i))) (hc' : ∀ i, i < m → w.cell? ⟨b', off' + i, none⟩ = some (.float .f64 (g i)))
    (hf : ∀ i, i < n → f i < 18446744073709551616) (hg : ∀ i, i < m → g i < 18446744073709551616) :
    FV 77 #[.slice (some ⟨b, off, none⟩) n cap, .slice (some ⟨b', off', none⟩) m cap'] w (dotC f g (min n m)) := by
  unfold FV
  have HF : Hid ((∀ i, i < n → f i < 18446744073709551616) ∧ ∀ i, i < m → g i < 18446744073709551616) := ⟨hf, hg⟩
  have hadd := add_run
  have hmul := mul_run
  clear hf hg
  go_enter Try.func77, Try.ntmps77
  go_wp2_with fail
  go_loopw [5, 6] (fun s i wr => ∃ k x : Nat, k ≤ n ∧ k ≤ m ∧ i = .int .i64 k ∧ s = .float .f64 x ∧ Hid (x < 18446744073709551616 ∧ cl x = dotC f g k) ∧ Below w.heap.size w wr) (fun _ i _ => n - (intOf i).toNat)
  case atStart => exact ⟨0, 0, Nat.zero_le _, Nat.zero_le _, rfl, rfl, ⟨by omega, rfl⟩, Below.refl _ _⟩
  case round =>
    obtain ⟨k, x, hk, hk', rfl, rfl, HX, hb⟩ := hrel
    by_cases hkn : k < n
    · by_cases hkm : k < m
      · have g1 := cells_later hc hb k hkn
        have g2 := cells_later hc' hb k hkm
        obtain ⟨y, hy⟩ : ∃ y, y = f k := ⟨_, rfl⟩
        obtain ⟨z, hz⟩ : ∃ z, z = g k := ⟨_, rfl⟩
        rw [← hy] at g1
        rw [← hz] at g2
        have HY : Hid (y < 18446744073709551616 ∧ y = f k ∧ z < 18446744073709551616 ∧ z = g k) := ⟨by rw [hy]; exact HF.out.1 k hkn, hy, by rw [hz]; exact HF.out.2 k hkm, hz⟩
        have HB : Hid (Below w.heap.size w wr) := hb
        clear hc hc' hb hy hz HF
        go_wp2
        go_region_held (fun W => W.cell? ⟨b, off + k, none⟩ = some (.float .f64 y) ∧ W.cell? ⟨b', off' + k, none⟩ = some (.float .f64 z) ∧ Below wr.heap.size wr W) (refine ⟨?_, ?_, ?_⟩ <;> first | (simp [cell_opW, *]; done) | (repeat (first | exact Below.refl _ _ | refine below_opW ?_ | refine Below.drew ?_))) (fail)
        go_wp2
        go_roundw
        case rel =>
          refine ⟨k + 1, _, by omega, by omega, by simp, rfl, ⟨opV_lt _ _ _ _, ?_⟩, below_opW (below_opW HB.out.drew)⟩
          rw [opV_cl _ HX.out.1 (opV_lt _ _ _ _), opV_cl _ HY.out.1 HY.out.2.2.1, HX.out.2, HY.out.2.1, HY.out.2.2.2]; rfl
        case measure => simp [intOf]; omega
      · obtain rfl : k = m := by omega
        have hmin : min n k = k := by omega
        have HB : Hid (Below w.heap.size w wr) := hb
        have HX' : Hid (x < 18446744073709551616 ∧ cl x = dotC f g (min n k)) := by rw [hmin]; exact HX
        clear hc hc' HF hb HX hmin
        go_wp2
        go_ret
        exact ⟨x, rfl, ⟨HX'.out.1, HX'.out.2⟩, HB.out⟩
    · obtain rfl : k = n := by omega
      have hmin : min k m = k := by omega
      have HB : Hid (Below w.heap.size w wr) := hb
      have HX' : Hid (x < 18446744073709551616 ∧ cl x = dotC f g (min k m)) := by rw [hmin]; exact HX
      clear hc hc' HF hb HX hmin
      go_wp2
      go_ret
      exact ⟨x, rfl, ⟨HX'.out.1, HX'.out.2⟩, HB.out⟩
set_option maxHeartbeats 1600000 in
theorem iDot_lt (b off n cap b' off' m cap' : Nat) (f g : Nat → Nat) (w : World) (hn : n ≤ 1000000000000) (hm : m ≤ 1000000000000) (hmn : m < n) (hc : ∀ i, i < n → w.cell? ⟨b, off + i, none⟩ = some (.float .f64 (f i))) (hc' : ∀ i, i < m → w.cell? ⟨b', off' + i, none⟩ = some (.float .f64 (g i)))
    (hf : ∀ i, i < n → f i < 18446744073709551616) (hg : ∀ i, i < m → g i < 18446744073709551616) :
    FV 78 #[.slice (some ⟨b, off, none⟩) n cap, .slice (some ⟨b', off', none⟩) m cap'] w (dotC f g m) := by
  unfold FV
  have HF : Hid ((∀ i, i < n → f i < 18446744073709551616) ∧ ∀ i, i < m → g i < 18446744073709551616) := ⟨hf, hg⟩
  have hadd := add_run
  have hmul := mul_run
  clear hf hg
  go_enter Try.func78, Try.ntmps78
  go_wp2_with fail
  go_loopw [5, 12] (fun s i wr => ∃ k x : Nat, k ≤ m ∧ i = .int .i64 k ∧ s = .float .f64 x ∧ Hid (x < 18446744073709551616 ∧ cl x = dotC f g k) ∧ Below w.heap.size w wr) (fun _ i _ => m - (intOf i).toNat)
  case atStart => exact ⟨0, 0, Nat.zero_le _, rfl, rfl, ⟨by omega, rfl⟩, Below.refl _ _⟩
  case round =>
    obtain ⟨k, x, hk, rfl, rfl, HX, hb⟩ := hrel
    by_cases hkN : k < m
    · have hkn : k < n := by omega
      have hkm : k < m := by omega
      have g1 := cells_later hc hb k hkn
      have g2 := cells_later hc' hb k hkm
      obtain ⟨y, hy⟩ : ∃ y, y = f k := ⟨_, rfl⟩
      obtain ⟨z, hz⟩ : ∃ z, z = g k := ⟨_, rfl⟩
      rw [← hy] at g1
      rw [← hz] at g2
      have HY : Hid (y < 18446744073709551616 ∧ y = f k ∧ z < 18446744073709551616 ∧ z = g k) := ⟨by rw [hy]; exact HF.out.1 k hkn, hy, by rw [hz]; exact HF.out.2 k hkm, hz⟩
      have HB : Hid (Below w.heap.size w wr) := hb
      clear hc hc' hb hy hz HF
      go_wp2
      go_region_held (fun W => W.cell? ⟨b, off + k, none⟩ = some (.float .f64 y) ∧ W.cell? ⟨b', off' + k, none⟩ = some (.float .f64 z) ∧ Below wr.heap.size wr W) (refine ⟨?_, ?_, ?_⟩ <;> first | (simp [cell_opW, *]; done) | (repeat (first | exact Below.refl _ _ | refine below_opW ?_ | refine Below.drew ?_))) (fail)
      go_wp2
      go_roundw
      case rel =>
        refine ⟨k + 1, _, by omega, by simp, rfl, ⟨opV_lt _ _ _ _, ?_⟩, below_opW (below_opW HB.out.drew)⟩
        rw [opV_cl _ HX.out.1 (opV_lt _ _ _ _), opV_cl _ HY.out.1 HY.out.2.2.1, HX.out.2, HY.out.2.1, HY.out.2.2.2]; rfl
      case measure => simp [intOf]; omega
    · obtain rfl : k = m := by omega
      have HB : Hid (Below w.heap.size w wr) := hb
      clear hc hc' HF hb
      go_wp2
      go_ret
      exact ⟨x, rfl, ⟨HX.out.1, HX.out.2⟩, HB.out⟩
set_option maxHeartbeats 1600000 in
theorem iDot_ge (b off n cap b' off' m cap' : Nat) (f g : Nat → Nat) (w : World) (hn : n ≤ 1000000000000) (hm : m ≤ 1000000000000) (hmn : ¬ m < n) (hc : ∀ i, i < n → w.cell? ⟨b, off + i, none⟩ = some (.float .f64 (f i))) (hc' : ∀ i, i < m → w.cell? ⟨b', off' + i, none⟩ = some (.float .f64 (g i)))
    (hf : ∀ i, i < n → f i < 18446744073709551616) (hg : ∀ i, i < m → g i < 18446744073709551616) :
    FV 78 #[.slice (some ⟨b, off, none⟩) n cap, .slice (some ⟨b', off', none⟩) m cap'] w (dotC f g n) := by
  unfold FV
  have HF : Hid ((∀ i, i < n → f i < 18446744073709551616) ∧ ∀ i, i < m → g i < 18446744073709551616) := ⟨hf, hg⟩
  have hadd := add_run
  have hmul := mul_run
  clear hf hg
  go_enter Try.func78, Try.ntmps78
  go_wp2_with fail
  go_loopw [5, 12] (fun s i wr => ∃ k x : Nat, k ≤ n ∧ i = .int .i64 k ∧ s = .float .f64 x ∧ Hid (x < 18446744073709551616 ∧ cl x = dotC f g k) ∧ Below w.heap.size w wr) (fun _ i _ => n - (intOf i).toNat)
  case atStart => exact ⟨0, 0, Nat.zero_le _, rfl, rfl, ⟨by omega, rfl⟩, Below.refl _ _⟩
  case round =>
    obtain ⟨k, x, hk, rfl, rfl, HX, hb⟩ := hrel
    by_cases hkN : k < n
    · have hkn : k < n := by omega
      have hkm : k < m := by omega
      have g1 := cells_later hc hb k hkn
      have g2 := cells_later hc' hb k hkm
      obtain ⟨y, hy⟩ : ∃ y, y = f k := ⟨_, rfl⟩
      obtain ⟨z, hz⟩ : ∃ z, z = g k := ⟨_, rfl⟩
      rw [← hy] at g1
      rw [← hz] at g2
      have HY : Hid (y < 18446744073709551616 ∧ y = f k ∧ z < 18446744073709551616 ∧ z = g k) := ⟨by rw [hy]; exact HF.out.1 k hkn, hy, by rw [hz]; exact HF.out.2 k hkm, hz⟩
      have HB : Hid (Below w.heap.size w wr) := hb
      clear hc hc' hb hy hz HF
      go_wp2
      go_region_held (fun W => W.cell? ⟨b, off + k, none⟩ = some (.float .f64 y) ∧ W.cell? ⟨b', off' + k, none⟩ = some (.float .f64 z) ∧ Below wr.heap.size wr W) (refine ⟨?_, ?_, ?_⟩ <;> first | (simp [cell_opW, *]; done) | (repeat (first | exact Below.refl _ _ | refine below_opW ?_ | refine Below.drew ?_))) (fail)
      go_wp2
      go_roundw
      case rel =>
        refine ⟨k + 1, _, by omega, by simp, rfl, ⟨opV_lt _ _ _ _, ?_⟩, below_opW (below_opW HB.out.drew)⟩
        rw [opV_cl _ HX.out.1 (opV_lt _ _ _ _), opV_cl _ HY.out.1 HY.out.2.2.1, HX.out.2, HY.out.2.1, HY.out.2.2.2]; rfl
      case measure => simp [intOf]; omega
    · obtain rfl : k = n := by omega
      have HB : Hid (Below w.heap.size w wr) := hb
      clear hc hc' HF hb
      go_wp2
      go_ret
      exact ⟨x, rfl, ⟨HX.out.1, HX.out.2⟩, HB.out⟩
theorem iDot_any (b off n cap b' off' m cap' : Nat) (f g : Nat → Nat) (w : World) (hn : n ≤ 1000000000000) (hm : m ≤ 1000000000000) (hc : ∀ i, i < n → w.cell? ⟨b, off + i, none⟩ = some (.float .f64 (f i))) (hc' : ∀ i, i < m → w.cell? ⟨b', off' + i, none⟩ = some (.float .f64 (g i)))
    (hf : ∀ i, i < n → f i < 18446744073709551616) (hg : ∀ i, i < m → g i < 18446744073709551616) :
    FV 78 #[.slice (some ⟨b, off, none⟩) n cap, .slice (some ⟨b', off', none⟩) m cap'] w (dotC f g (min n m)) := by
  by_cases h : m < n
  · rw [show min n m = m by omega]
    exact iDot_lt b off n cap b' off' m cap' f g w hn hm h hc hc' hf hg
  · rw [show min n m = n by omega]
    exact iDot_ge b off n cap b' off' m cap' f g w hn hm h hc hc' hf hg
end Go.Proofs.Ytcmgafgboepllaa
