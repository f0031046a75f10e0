/- Sums of lists of floats, one by one: contracts of the specification's and the program's. -/
import Derived.Test.YtcmgafgboepllaaEqs
import Derived.Handy
namespace Go.Proofs.Ytcmgafgboepllaa
open Go.RowKit Fl
/-- The sum of the first k floats f, all NaNs being one. -/
def fsumC (f : Nat → Nat) : Nat → Option Nat
  | 0 => cl 0
  | k + 1 => opC .add (fsumC f k) (cl (f k))
set_option maxHeartbeats 800000 in
theorem sSum_any (b off n cap : Nat) (f : Nat → Nat) (w : World) (hn : n ≤ 1000000000000) (hc : ∀ i, i < n → w.cell? ⟨b, off + i, none⟩ = some (.float .f64 (f i))) (hf : ∀ i, i < n → f i < 18446744073709551616) :
    FV 54 #[.slice (some ⟨b, off, none⟩) n cap] w (fsumC f n) := by
  unfold FV
  have HF : Hid (∀ i, i < n → f i < 18446744073709551616) := hf
  have hadd := add_run
  clear hf
  go_enter Try.func54, Try.ntmps54
  go_wp2_with fail
  go_loopw [3, 4] (fun s i wr => ∃ k x : Nat, k ≤ n ∧ i = .int .i64 k ∧ s = .float .f64 x ∧ Hid (x < 18446744073709551616 ∧ cl x = fsumC f k) ∧ Below w.heap.size w wr) (fun _ i _ => n - (intOf i).toNat)
  case atStart => exact ⟨0, 0, Nat.zero_le _, rfl, rfl, ⟨by omega, rfl⟩, Below.refl _ _⟩
  case round =>
    obtain ⟨k, x, hk, rfl, rfl, HX, hb⟩ := hrel
    by_cases hkn : k < n
    · have g1 := cells_later hc hb k hkn
      obtain ⟨y, hy⟩ : ∃ y, y = f k := ⟨_, rfl⟩
      rw [← hy] at g1
      have HY : Hid (y < 18446744073709551616 ∧ y = f k) := ⟨by rw [hy]; exact HF.out k hkn, hy⟩
      have HB : Hid (Below w.heap.size w wr) := hb
      clear hc hb hy HF
      go_wp2
      go_roundw
      case rel => exact ⟨k + 1, opV .add x y wr, by omega, by simp, rfl, ⟨opV_lt _ _ _ _, by rw [opV_cl _ HX.out.1 HY.out.1, HX.out.2, HY.out.2]; rfl⟩, below_opW HB.out⟩
      case measure => simp [intOf]; omega
    · obtain rfl : k = n := by omega
      have HB : Hid (Below w.heap.size w wr) := hb
      clear hc HF hb
      go_wp2
      go_ret
      exact ⟨x, rfl, ⟨HX.out.1, HX.out.2⟩, HB.out⟩
set_option maxHeartbeats 800000 in
theorem iSum_any (b off n cap : Nat) (f : Nat → Nat) (w : World) (hn : n ≤ 1000000000000) (hc : ∀ i, i < n → w.cell? ⟨b, off + i, none⟩ = some (.float .f64 (f i))) (hf : ∀ i, i < n → f i < 18446744073709551616) :
    FV 57 #[.slice (some ⟨b, off, none⟩) n cap] w (fsumC f n) := by
  unfold FV
  have HF : Hid (∀ i, i < n → f i < 18446744073709551616) := hf
  have hadd := add_run
  clear hf
  go_enter Try.func57, Try.ntmps57
  go_wp2_with fail
  go_loopw [3, 8] (fun s i wr => ∃ k x : Nat, k ≤ n ∧ i = .int .i64 k ∧ s = .float .f64 x ∧ Hid (x < 18446744073709551616 ∧ cl x = fsumC f k) ∧ Below w.heap.size w wr) (fun _ i _ => n - (intOf i).toNat)
  case atStart => exact ⟨0, 0, Nat.zero_le _, rfl, rfl, ⟨by omega, rfl⟩, Below.refl _ _⟩
  case round =>
    obtain ⟨k, x, hk, rfl, rfl, HX, hb⟩ := hrel
    by_cases hkn : k < n
    · have g1 := cells_later hc hb k hkn
      obtain ⟨y, hy⟩ : ∃ y, y = f k := ⟨_, rfl⟩
      rw [← hy] at g1
      have HY : Hid (y < 18446744073709551616 ∧ y = f k) := ⟨by rw [hy]; exact HF.out k hkn, hy⟩
      have HB : Hid (Below w.heap.size w wr) := hb
      clear hc hb hy HF
      go_wp2
      go_roundw
      case rel => exact ⟨k + 1, opV .add x y wr, by omega, by simp, rfl, ⟨opV_lt _ _ _ _, by rw [opV_cl _ HX.out.1 HY.out.1, HX.out.2, HY.out.2]; rfl⟩, below_opW HB.out⟩
      case measure => simp [intOf]; omega
    · obtain rfl : k = n := by omega
      have HB : Hid (Below w.heap.size w wr) := hb
      clear hc HF hb
      go_wp2
      go_ret
      exact ⟨x, rfl, ⟨HX.out.1, HX.out.2⟩, HB.out⟩
end Go.Proofs.Ytcmgafgboepllaa
