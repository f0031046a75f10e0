/- A whole number in decimal, as the specification tells it. -/
import Derived.Test.YtndfncjoknibaaaDoorGc
import Derived.Lib.ItoaNum
import Derived.Lib.ItoaLen
import Derived.Lib.ItoaMem
import Derived.WalkLawsBesides
import Derived.Laws.IdiomStrings
import Derived.Handy
import Derived.Deep.RegionHeld3
namespace Go.Proofs.YtndfncjoknibaaaDoor
open Go.RowKit
theorem conv1 (W : World) (k c : Nat) (m : Int) (h0 : 0 ≤ m) (h1 : m ≤ 255) (hc : W.cell? ⟨k, 0, none⟩ = some (.int .u8 m)) :
    (convert 122 9 (.slice (some ⟨k, 0, none⟩) 1 c)).run Tryd.prog W = .ok (.string ⟨#[UInt8.ofNat m.toNat]⟩) W := by
  have := run_convert_bytes_back (P := Tryd.prog) W 122 9 5 ⟨k, 0, none⟩ c [UInt8.ofNat m.toNat] Tryd.underlying122 Tryd.underlying5 Tryd.underlying9 (fun j hj => by
    have : j = 0 := by simp at hj; omega
    subst this
    simp only [Addr.add, List.getElem_cons_zero]
    rw [if_pos trivial, hc]
    congr 2
    rw [UInt8.toNat_ofNat']
    omega)
  simpa using this
theorem dec_lt (n : Int) (h0 : 0 ≤ n) (h1 : n < 10) : (⟨#[UInt8.ofNat (48 + n).toNat]⟩ : ByteArray) = ⟨(Lib.decDigits n.toNat).toArray⟩ := by
  rw [Lib.decDigits_one (by omega), show (48 + n).toNat = 48 + n.toNat by omega]
theorem dec_ge (n : Int) (h1 : 10 ≤ n) : (⟨(Lib.decDigits (n / 10).toNat).toArray⟩ : ByteArray) ++ ⟨#[UInt8.ofNat (48 + n % 10).toNat]⟩ = ⟨(Lib.decDigits n.toNat).toArray⟩ := by
  conv => rhs; rw [Lib.decDigits, dif_neg (by omega)]
  rw [show (48 + n % 10).toNat = 48 + n.toNat % 10 by omega, show (n / 10).toNat = n.toNat / 10 by omega]
  simp [ByteArray.ext_iff]
theorem dec_len (u : Nat) (h : u ≤ 1000000000000) : (Lib.decDigits u).length ≤ 21 := by
  have := Lib.itoa_length_le (u : Int) (by omega) (by omega)
  rwa [Lib.itoa_nonneg] at this
set_option maxHeartbeats 400000 in
theorem dec_small (n : Int) (w : World) (h0 : 0 ≤ n) (h1 : n < 10) :
    Calls Tryd.prog 84 #[.int .i64 n] w fun e w' => e = .returned (.string ⟨(Lib.decDigits n.toNat).toArray⟩) ∧ Below w.heap.size w w' := by
  rw [← dec_lt n h0 h1]
  have hcv := fun W k c => conv1 W k c (48 + n) (by omega) (by omega)
  go_enter Tryd.func84, Tryd.ntmps84
  go_wp2
  go_ret
  exact ⟨rfl, by go_grown⟩
set_option maxHeartbeats 1000000 in
theorem dec_big (n : Int) (w : World) (h0 : 10 ≤ n) (h1 : n ≤ 1000000000000) (ih : Hid (∀ w : World, Calls Tryd.prog 84 #[.int .i64 (n / 10)] w fun e w' => e = .returned (.string ⟨(Lib.decDigits (n / 10).toNat).toArray⟩) ∧ Below w.heap.size w w')) :
    Calls Tryd.prog 84 #[.int .i64 n] w fun e w' => e = .returned (.string ⟨(Lib.decDigits n.toNat).toArray⟩) ∧ Below w.heap.size w w' := by
  rw [← dec_ge n h0]
  have hcv := fun W k c => conv1 W k c (48 + n % 10) (by omega) (by omega)
  have hR0 : Below w.heap.size w w := Below.refl _ _
  have hlen := dec_len (n / 10).toNat (by omega)
  have e1 : n.tdiv 10 = n / 10 := Int.tdiv_eq_ediv_of_nonneg (by omega)
  have e2 : n.tmod 10 = n % 10 := Int.tmod_eq_emod_of_nonneg (by omega)
  have e3 : IntKind.i64.wrap (n / 10) = n / 10 := by rw [IntKind.wrap_i64]; omega
  have e4 : IntKind.i64.wrap (48 + n % 10) = 48 + n % 10 := by rw [IntKind.wrap_i64]; omega
  have e5 : IntKind.u8.wrap (48 + n % 10) = 48 + n % 10 := by rw [IntKind.wrap_u8]; omega
  go_enter Tryd.func84, Tryd.ntmps84
  go_wp2
  go_region_with (first | (go_at_call 84; refine (ih.out _).mono ?_; rintro e w1 ⟨rfl, hb1⟩; have hs1 := hb1.size; (try simp at hs1); have hR1 : Below w.heap.size w w1 := (by refine box_step ?_ hb1 (Nat.le_refl _); go_grown); obtain ⟨ho1, hf1, hz1⟩ := olds hb1))
  all_goals
    go_wp2
    go_ret
    exact ⟨rfl, by go_grown⟩
/-- l1Decimal, of every number from 0 to 10^12. -/
theorem dec (u : Nat) : ∀ w : World, u ≤ 1000000000000 → Calls Tryd.prog 84 #[.int .i64 (u : Int)] w fun e w' => e = .returned (.string ⟨(Lib.decDigits u).toArray⟩) ∧ Below w.heap.size w w' := by
  induction u using Nat.strongRecOn with
  | _ u ih =>
    intro w h
    by_cases h1 : u < 10
    · have := dec_small (u : Int) w (by omega) (by omega)
      rwa [Int.toNat_natCast] at this
    · have := dec_big (u : Int) w (by omega) (by omega) (fun w => by
        have := ih (u / 10) (by omega) w (by omega)
        rw [show ((u / 10 : Nat) : Int) = (u : Int) / 10 by omega] at this
        rwa [show ((u : Int) / 10).toNat = u / 10 by omega])
      rwa [Int.toNat_natCast] at this
theorem neg_text (u : Nat) (h : 1 ≤ u) : (⟨#[45]⟩ : ByteArray) ++ ⟨(Lib.decDigits u).toArray⟩ = ⟨(Lib.itoa (-(u : Int))).toArray⟩ := by
  rw [Lib.itoa_neg u h]; simp [ByteArray.ext_iff]
set_option maxHeartbeats 400000 in
theorem sint_neg (u : Nat) (w : World) (h0 : 1 ≤ u) (h1 : u ≤ 1000000000000) :
    Calls Tryd.prog 65 #[.int .i64 (-(u : Int))] w fun e w' => e = .returned (.string ⟨(Lib.itoa (-(u : Int))).toArray⟩) ∧ Below w.heap.size w w' := by
  rw [← neg_text u h0]
  have hlen := dec_len u h1
  have a1 : (1 : Int) ≤ (u : Int) := by omega
  have a2 : (u : Int) ≤ 1000000000000 := by omega
  go_enter Tryd.func65, Tryd.ntmps65
  go_wp2_with fail
  refine (dec u _ h1).mono ?_
  rintro e w1 ⟨rfl, hb1⟩
  go_wp2
  go_ret
  exact ⟨rfl, hb1⟩
set_option maxHeartbeats 400000 in
theorem sint_pos (u : Nat) (w : World) (h1 : u ≤ 1000000000000) :
    Calls Tryd.prog 65 #[.int .i64 (u : Int)] w fun e w' => e = .returned (.string ⟨(Lib.itoa (u : Int)).toArray⟩) ∧ Below w.heap.size w w' := by
  rw [Lib.itoa_nonneg]
  have a2 : (u : Int) ≤ 1000000000000 := by omega
  go_enter Tryd.func65, Tryd.ntmps65
  go_wp2_with fail
  refine (dec u _ h1).mono ?_
  rintro e w1 ⟨rfl, hb1⟩
  go_wp2
  go_ret
  exact ⟨rfl, hb1⟩
/-- l1Int, of every number from -10^12 to 10^12. -/
theorem sint (n : Int) (w : World) (h0 : -1000000000000 ≤ n) (h1 : n ≤ 1000000000000) :
    Calls Tryd.prog 65 #[.int .i64 n] w fun e w' => e = .returned (.string ⟨(Lib.itoa n).toArray⟩) ∧ Below w.heap.size w w' := by
  by_cases h : n < 0
  · have := sint_neg n.natAbs w (by omega) (by omega)
    rwa [show (-(n.natAbs : Int)) = n by omega] at this
  · have := sint_pos n.natAbs w (by omega)
    rwa [show ((n.natAbs : Int)) = n by omega] at this
theorem itoa_len (n : Int) (h0 : -1000000000000 ≤ n) (h1 : n ≤ 1000000000000) : (Lib.itoa n).length ≤ 21 := Lib.itoa_length_le n (by omega) (by omega)
end Go.Proofs.YtndfncjoknibaaaDoor
