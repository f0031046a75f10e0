/- What is wrong with a map (mapc): the specification's MapFault and the program's answer it. -/
import Derived.Test.YtbagaicbochmnaaFaults
namespace Go.Proofs.Ytbagaicbochmnaa
open Go.RowKit
def OddM (n : Nat) (L : Nat → Nat) : Prop := n = 0 ∨ L 0 = 0 ∨ ∃ i, i < n ∧ L i ≠ L 0
def manyKB (K : Int) (n : Nat) (L : Nat → Nat) : Bool := decide (K < (n : Int)) || (List.range n).any fun i => decide (K < (L i : Int))
def oddMB (n : Nat) (L : Nat → Nat) : Bool := decide (n = 0) || decide (L 0 = 0) || (List.range n).any fun i => decide (L i ≠ L 0)
theorem manyKB_iff (K : Int) (n : Nat) (L : Nat → Nat) : manyKB K n L = true ↔ ManyK K n L := by simp [manyKB, ManyK]
theorem oddMB_iff (n : Nat) (L : Nat → Nat) : oddMB n L = true ↔ OddM n L := by simp [oddMB, OddM, or_assoc]
/-- The code of a map of n rows of lengths L. -/
def mapc (n : Nat) (L : Nat → Nat) : Int := if manyKB 32 n L = true then 2 else if oddMB n L = true then 1 else 0
theorem mapc2 {n : Nat} {L : Nat → Nat} (h : ManyK 32 n L) : mapc n L = 2 := by unfold mapc; rw [if_pos ((manyKB_iff 32 n L).2 h)]
theorem mapc1 {n : Nat} {L : Nat → Nat} (h : ¬ManyK 32 n L) (h1 : OddM n L) : mapc n L = 1 := by unfold mapc; rw [if_neg fun e => h ((manyKB_iff 32 n L).1 e), if_pos ((oddMB_iff n L).2 h1)]
theorem mapc0 {n : Nat} {L : Nat → Nat} (h : ¬ManyK 32 n L) (h1 : ¬OddM n L) : mapc n L = 0 := by unfold mapc; rw [if_neg fun e => h ((manyKB_iff 32 n L).1 e), if_neg fun e => h1 ((oddMB_iff n L).1 e)]
theorem mapc_cases (n : Nat) (L : Nat → Nat) : mapc n L = 0 ∨ mapc n L = 1 ∨ mapc n L = 2 := by
  unfold mapc
  split
  · exact Or.inr (Or.inr rfl)
  · split
    · exact Or.inr (Or.inl rfl)
    · exact Or.inl rfl
theorem mapc_right {n : Nat} {L : Nat → Nat} (h : mapc n L = 0) : 0 < n ∧ n ≤ 32 ∧ 0 < L 0 ∧ L 0 ≤ 32 ∧ ∀ i, i < n → L i = L 0 := by
  unfold mapc at h
  split at h
  · omega
  rename_i g1
  split at h
  · omega
  rename_i g2
  have h1 : ¬ManyK 32 n L := fun e => g1 ((manyKB_iff 32 n L).2 e)
  have h2 : ¬OddM n L := fun e => g2 ((oddMB_iff n L).2 e)
  have n0 : 0 < n := by
    rcases Nat.eq_zero_or_pos n with e | e
    · exact absurd (Or.inl e) h2
    · exact e
  have l0 : 0 < L 0 := by
    rcases Nat.eq_zero_or_pos (L 0) with e | e
    · exact absurd (Or.inr (Or.inl e)) h2
    · exact e
  refine ⟨n0, ?_, l0, ?_, fun i hi => ?_⟩
  · apply Decidable.byContradiction
    intro h
    exact h1 (Or.inl (by omega))
  · apply Decidable.byContradiction
    intro h
    exact h1 (Or.inr ⟨0, n0, by omega⟩)
  · apply Decidable.byContradiction
    intro h
    exact h2 (Or.inr (Or.inr ⟨i, hi, h⟩))
theorem not_oddM {n : Nat} {L : Nat → Nat} (h : 0 < n) (h0 : 0 < L 0) (h1 : ∀ i, i < n → L i = L 0) : ¬OddM n L := by
  rintro (h2 | h2 | ⟨i, hi, h3⟩)
  · omega
  · omega
  · exact h3 (h1 i hi)

set_option maxHeartbeats 1600000 in
theorem iMap_any (b off n cap : Nat) (L : Nat → Nat) (w : World) (hn : n ≤ 9223372036854775807) (hL : ∀ i, i < n → L i ≤ 9223372036854775807) (hc : Tops w b off n L) :
    Calls Try.prog 43 #[.slice (some ⟨b, off, none⟩) n cap] w fun e w' => e = .returned (.int .i64 (mapc n L)) ∧ w = w' := by
  have HC : Hid (Tops w b off n L) := hc
  have HL : Hid (∀ i, i < n → L i ≤ 9223372036854775807) := hL
  clear hc hL
  go_enter Try.func43, Try.ntmps43
  go_wp2_with fail
  refine (iMany_any _ _ _ _ _ L _ (by omega) (by omega) hn HL.out HC.out).mono ?_
  rintro e w1 ⟨r, rfl, hm1, hm0, rfl⟩
  have H1 : Hid ((r = true → ManyK 32 n L) ∧ (r = false → ¬ManyK 32 n L)) := ⟨hm1, hm0⟩
  clear hm1 hm0
  cases r
  · have HM : Hid (¬ManyK 32 n L) := H1.out.2 (by trivial)
    clear H1
    by_cases hz : n = 0
    · subst hz
      go_wp2
      go_ret
      exact ⟨ret_int (mapc1 HM.out (Or.inl rfl)).symm, rfl⟩
    have hz0 : ((n : Int) == 0) = false := by rw [beq_eq_false_iff_ne]; omega
    obtain ⟨ao0, c0, g0⟩ := HC.out 0 (by omega)
    have gL0 := HL.out 0 (by omega)
    rw [Nat.add_zero] at g0
    by_cases hl : L 0 = 0
    · have hl0 : (((L 0 : Nat) : Int) == 0) = true := by rw [beq_iff_eq]; omega
      have HB : Hid (L 0 = 0) := hl
      clear hl
      go_wp2
      go_ret
      exact ⟨ret_int (mapc1 HM.out (Or.inr (Or.inl HB.out))).symm, rfl⟩
    have hl0 : (((L 0 : Nat) : Int) == 0) = false := by rw [beq_eq_false_iff_ne]; omega
    go_wp2_with fail
    go_loopw [19] (fun i wx => wx = w ∧ ∃ q : Nat, q ≤ n ∧ i = .int .i64 q ∧ Hid (∀ j, j < q → L j = L 0)) (fun i _ => n - (intOf i).toNat)
    case atStart => exact ⟨rfl, 0, Nat.zero_le _, rfl, fun j hj => absurd hj (Nat.not_lt_zero _)⟩
    case round =>
      obtain ⟨rfl, q, hq, rfl, hs2⟩ := hrel
      by_cases hqn : q < n
      · obtain ⟨ao, c, g1⟩ := HC.out q hqn
        have gL := HL.out q hqn
        by_cases hb : L q = L 0
        · have hb1 := eq_bool hb
          have HB : Hid (L q = L 0) := hb
          clear hb
          go_wp2
          go_roundw
          case rel => exact ⟨by trivial, q + 1, by omega, by simp, all_succ hs2.out HB.out⟩
          case measure => simp [intOf]; omega
        · have hb1 := ne_bool hb
          have HB : Hid (L q ≠ L 0) := hb
          clear hb
          go_wp2
          go_ret
          exact ⟨ret_int (mapc1 HM.out (Or.inr (Or.inr ⟨q, hqn, HB.out⟩))).symm, rfl⟩
      · obtain rfl : q = n := by omega
        go_wp2
        go_ret
        exact ⟨ret_int (mapc0 HM.out (not_oddM (by omega) (by omega) hs2.out)).symm, rfl⟩
  · have HM : Hid (ManyK 32 n L) := H1.out.1 (by trivial)
    clear H1
    go_wp2
    go_ret
    exact ⟨ret_int (mapc2 HM.out).symm, rfl⟩
set_option maxHeartbeats 1600000 in
theorem sMap_any (b off n cap : Nat) (L : Nat → Nat) (w : World) (hn : n ≤ 9223372036854775807) (hL : ∀ i, i < n → L i ≤ 9223372036854775807) (hc : Tops w b off n L) :
    Calls Try.prog 42 #[.slice (some ⟨b, off, none⟩) n cap] w fun e w' => ∃ q, e = .returned (.int .i64 (mapc n L)) ∧ w' = w.drewN q := by
  by_cases h24 : 32 < n
  · rw [mapc2 (Or.inl (by omega))]
    go_enter Try.func42, Try.ntmps42
    go_wp2
    go_ret
    exact ⟨0, rfl, rfl⟩
  have hn24 : n ≤ 32 := by omega
  clear h24
  have HC : Hid (Tops w b off n L) := hc
  have HL : Hid (∀ i, i < n → L i ≤ 9223372036854775807) := hL
  clear hc hL
  go_enter Try.func42, Try.ntmps42
  go_wp2_with fail
  go_loopw [3] (fun i wr => wr = w ∧ ∃ k : Nat, k ≤ n ∧ i = .int .i64 k ∧ Hid (∀ j, j < k → L j ≤ 32)) (fun i _ => n - (intOf i).toNat)
  case atStart => exact ⟨rfl, 0, Nat.zero_le _, rfl, fun j hj => absurd hj (Nat.not_lt_zero _)⟩
  case round =>
    obtain ⟨rfl, k, hk, rfl, hs⟩ := hrel
    by_cases hkn : k < n
    · obtain ⟨ao, c, g1⟩ := HC.out k hkn
      have gL := HL.out k hkn
      by_cases hb : 32 < L k
      · go_wp2
        go_ret
        exact ⟨0, ret_int (mapc2 (Or.inr ⟨k, hkn, by omega⟩)).symm, rfl⟩
      · go_wp2
        go_roundw
        case rel => exact ⟨by trivial, k + 1, by omega, by simp, all_succ hs.out (by omega)⟩
        case measure => simp [intOf]; omega
    · obtain rfl : k = n := by omega
      have HM : Hid (¬ManyK 32 k L) := not_manyK (by omega) (fun i hi => by have := hs.out i hi; omega)
      by_cases hz : k = 0
      · subst hz
        go_wp2
        go_ret
        exact ⟨0, ret_int (mapc1 HM.out (Or.inl rfl)).symm, rfl⟩
      have hz0 : ((k : Int) == 0) = false := by rw [beq_eq_false_iff_ne]; omega
      obtain ⟨ao0, c0, g0⟩ := HC.out 0 (by omega)
      have gL0 := HL.out 0 (by omega)
      rw [Nat.add_zero] at g0
      by_cases hl : L 0 = 0
      · have hl0 : (((L 0 : Nat) : Int) == 0) = true := by rw [beq_iff_eq]; omega
        have HB : Hid (L 0 = 0) := hl
        clear hl
        go_wp2
        go_ret
        exact ⟨0, ret_int (mapc1 HM.out (Or.inr (Or.inl HB.out))).symm, rfl⟩
      have hl0 : (((L 0 : Nat) : Int) == 0) = false := by rw [beq_eq_false_iff_ne]; omega
      go_wp2_with fail
      go_loopw [4] (fun i wx => ∃ d, wx = wr.drewN d ∧ ∃ q : Nat, q ≤ k ∧ i = .int .i64 q ∧ Hid (∀ j, j < q → L j = L 0)) (fun i _ => k - (intOf i).toNat)
      case atStart => exact ⟨0, rfl, 0, Nat.zero_le _, rfl, fun j hj => absurd hj (Nat.not_lt_zero _)⟩
      case round =>
        obtain ⟨d, rfl, q, hq, rfl, hs2⟩ := hrel
        by_cases hqn : q < k
        · obtain ⟨ao, c, g1⟩ := HC.out q hqn
          have gL := HL.out q hqn
          by_cases hb : L q = L 0
          · have hb1 := eq_bool hb
            have HB : Hid (L q = L 0) := hb
            clear hb
            go_wp2
            go_quiet (fail)
            go_wp2
            go_roundw
            case rel => exact ⟨d + nq, by first | rfl | rw [World.drewN_drewN], q + 1, by omega, by simp, all_succ hs2.out HB.out⟩
            case measure => simp [intOf]; omega
          · have hb1 := ne_bool hb
            have HB : Hid (L q ≠ L 0) := hb
            clear hb
            go_wp2
            go_quiet (fail)
            go_wp2
            go_ret
            exact ⟨d + nq, ret_int (mapc1 HM.out (Or.inr (Or.inr ⟨q, hqn, HB.out⟩))).symm, by first | rfl | rw [World.drewN_drewN]⟩
        · obtain rfl : q = k := by omega
          go_wp2
          go_ret
          exact ⟨d, ret_int (mapc0 HM.out (not_oddM (by omega) (by omega) hs2.out)).symm, rfl⟩
end Go.Proofs.Ytbagaicbochmnaa
