/- Lengths of waves: which are powers of two, by halves and by the count of their bits; the codes of one list and of two: contracts of both packages. -/
import Derived.Test.YtpkbpikdffbadaaDoorMods
namespace Go.Proofs.YtpkbpikdffbadaaDoor
open Go.RowKit
set_option linter.unusedVariables false
namespace Wv
/-- The k for which n is 2^k, n at most 1024; -1: there is none. -/
def lgI (n : Nat) : Int :=
  if n = 1 then 0 else if n = 2 then 1 else if n = 4 then 2 else if n = 8 then 3 else if n = 16 then 4 else if n = 32 then 5 else if n = 64 then 6 else if n = 128 then 7 else if n = 256 then 8 else if n = 512 then 9 else if n = 1024 then 10 else -1
/-- A wave's code. -/
def wf (n : Nat) : Int := if 1024 < n then 2 else if lgI n < 0 then 1 else 0
/-- The code of two. -/
def pf (n m : Nat) : Int := if wf n = 0 then (if wf m = 0 then (if n = m then 0 else 1) else wf m) else wf n
theorem lgI_pow {n : Nat} (h : 0 ≤ lgI n) : ∃ k : Nat, k ≤ 10 ∧ n = 2 ^ k ∧ lgI n = k := by
  unfold lgI at h ⊢
  by_cases h0 : n = 1; · exact ⟨0, by omega, h0, by simp [h0]⟩
  by_cases h1 : n = 2; · exact ⟨1, by omega, h1, by simp [h1]⟩
  by_cases h2 : n = 4; · exact ⟨2, by omega, h2, by simp [h2]⟩
  by_cases h3 : n = 8; · exact ⟨3, by omega, h3, by simp [h3]⟩
  by_cases h4 : n = 16; · exact ⟨4, by omega, h4, by simp [h4]⟩
  by_cases h5 : n = 32; · exact ⟨5, by omega, h5, by simp [h5]⟩
  by_cases h6 : n = 64; · exact ⟨6, by omega, h6, by simp [h6]⟩
  by_cases h7 : n = 128; · exact ⟨7, by omega, h7, by simp [h7]⟩
  by_cases h8 : n = 256; · exact ⟨8, by omega, h8, by simp [h8]⟩
  by_cases h9 : n = 512; · exact ⟨9, by omega, h9, by simp [h9]⟩
  by_cases h10 : n = 1024; · exact ⟨10, by omega, h10, by simp [h10]⟩
  simp [h0, h1, h2, h3, h4, h5, h6, h7, h8, h9, h10] at h
theorem lgI_of : ∀ k : Nat, k ≤ 10 → lgI (2 ^ k) = k := by decide +kernel
theorem lgI_odd {m k : Nat} (hm : m ≠ 1) (ho : m % 2 = 1 ∨ m = 0) (hk : k ≤ 10) : lgI (m * 2 ^ k) = -1 := by
  by_cases h : 0 ≤ lgI (m * 2 ^ k)
  · exfalso
    obtain ⟨j, hj, e, _⟩ := lgI_pow h
    have : k = 0 ∨ k = 1 ∨ k = 2 ∨ k = 3 ∨ k = 4 ∨ k = 5 ∨ k = 6 ∨ k = 7 ∨ k = 8 ∨ k = 9 ∨ k = 10 := by omega
    have : j = 0 ∨ j = 1 ∨ j = 2 ∨ j = 3 ∨ j = 4 ∨ j = 5 ∨ j = 6 ∨ j = 7 ∨ j = 8 ∨ j = 9 ∨ j = 10 := by omega
    rcases ‹k = 0 ∨ _› with rfl | rfl | rfl | rfl | rfl | rfl | rfl | rfl | rfl | rfl | rfl <;> rcases ‹j = 0 ∨ _› with rfl | rfl | rfl | rfl | rfl | rfl | rfl | rfl | rfl | rfl | rfl <;> omega
  · unfold lgI at h ⊢
    repeat' split at h
    all_goals simp_all
theorem wf_ok {n : Nat} (h : wf n = 0) : ∃ k : Nat, k ≤ 10 ∧ n = 2 ^ k := by
  unfold wf at h
  split at h
  · omega
  · split at h
    · omega
    · obtain ⟨k, h1, h2, _⟩ := lgI_pow (n := n) (by omega)
      exact ⟨k, h1, h2⟩
theorem pow10 {k : Nat} (h : k ≤ 10) : 1 ≤ 2 ^ k ∧ 2 ^ k ≤ 1024 := by
  have h1 : 2 ^ k ≤ 2 ^ 10 := Nat.pow_le_pow_right (by decide) h
  exact ⟨Nat.one_le_two_pow, h1⟩
theorem wf_le {n : Nat} (h : wf n = 0) : 1 ≤ n ∧ n ≤ 1024 := by
  obtain ⟨k, hk, rfl⟩ := wf_ok h
  exact pow10 hk
theorem wf_of {k : Nat} (h : k ≤ 10) : wf (2 ^ k) = 0 := by
  have h1 := pow10 h
  unfold wf
  rw [if_neg (by omega), lgI_of k h, if_neg (by omega)]
theorem pf_ok {n m : Nat} (h : pf n m = 0) : wf n = 0 ∧ m = n := by
  unfold pf at h
  split at h
  · split at h
    · split at h
      · rename_i h1 _ h3; exact ⟨h1, h3.symm⟩
      · omega
    · contradiction
  · contradiction
/-- The count of bits, as the library reckons it. -/
def pc (x : Int) : Int :=
  let a := IntKind.u64.wrap (bits .and .u64 (x / 2) 6148914691236517205 + bits .and .u64 x 6148914691236517205)
  let b := IntKind.u64.wrap (bits .and .u64 (a / 4) 3689348814741910323 + bits .and .u64 a 3689348814741910323)
  let c := bits .and .u64 (IntKind.u64.wrap (b / 16 + b)) 1085102592571150095
  let d := IntKind.u64.wrap (c + c / 256)
  let e := IntKind.u64.wrap (d + d / 65536)
  let f := IntKind.u64.wrap (e + e / 4294967296)
  bits .and .i64 (wrap64 f) 127
theorem pc_ok : ∀ n : Fin 1025, (pc (n.val : Int) == 1) = decide (0 ≤ lgI n.val) := by decide +kernel
end Wv
set_option maxHeartbeats 1000000 in
theorem ones64 (x : Nat) (hx : x ≤ 1024) (w : World) : Calls Tryd.prog 51 #[.int .u64 x] w fun e w' => e = .returned (.int .i64 (Wv.pc x)) ∧ w = w' := by
  go_enter Tryd.func51, Tryd.ntmps51
  go_wp2
  go_ret
  exact ⟨rfl, rfl⟩
theorem ones (x : Nat) (hx : x ≤ 1024) (w : World) : Calls Tryd.prog 43 #[.int .u64 x] w fun e w' => e = .returned (.int .i64 (Wv.pc x)) ∧ w = w' := by
  go_enter Tryd.func43, Tryd.ntmps43
  go_wp2_with fail
  refine (ones64 x hx _).mono ?_
  rintro e w1 ⟨rfl, rfl⟩
  go_wp2
  go_ret
  exact ⟨rfl, rfl⟩
set_option maxHeartbeats 1000000 in
theorem log_any (n : Nat) (hn : n ≤ 1024) (w : World) : Calls Tryd.prog 40 #[.int .i64 n] w fun e w' => e = .returned (.int .i64 (Wv.lgI n)) ∧ w = w' := by
  go_enter Tryd.func40, Tryd.ntmps40
  go_wp2_with fail
  go_loopw [0, 3] (fun m q wr => wr = w ∧ ∃ m' k : Nat, m = .int .i64 m' ∧ q = .int .i64 k ∧ n = m' * 2 ^ k ∧ (m' ≠ 0 → k ≤ 10) ∧ k ≤ 10 ∧ m' ≤ 1024) (fun m _ _ => (intOf m).toNat)
  case atStart => exact ⟨rfl, n, 0, rfl, rfl, by simp, by omega, by omega, hn⟩
  case round =>
    obtain ⟨rfl, m, k, rfl, rfl, he, hk0, hk, hm⟩ := hrel
    by_cases h1 : 1 < m
    · by_cases h2 : m % 2 = 0
      · have h3 : (((m : Int) % 2) == 0) = true := by rw [beq_iff_eq]; omega
        have HE : Hid (n = m / 2 * 2 ^ (k + 1) ∧ k + 1 ≤ 10) := by
          have e1 : m * 2 ^ k = m / 2 * 2 ^ (k + 1) := by
            rw [Nat.pow_succ, Nat.mul_comm (2 ^ k), ← Nat.mul_assoc]; congr 1; omega
          refine ⟨by rw [he, e1], ?_⟩
          apply Classical.byContradiction
          intro hc
          obtain rfl : k = 10 := by omega
          omega
        clear he hk0
        go_wp2
        go_roundw
        case rel => exact ⟨by trivial, m / 2, k + 1, by simp, by simp, HE.out.1, fun _ => HE.out.2, HE.out.2, by omega⟩
        case measure => simp [intOf]; omega
      · have h3 : (((m : Int) % 2) == 0) = false := by rw [beq_eq_false_iff_ne]; omega
        have hx : ((m : Int) != 1) = true := by rw [bne_iff_ne]; omega
        have e : Hid (Wv.lgI n = -1) := by rw [he]; exact Wv.lgI_odd (by omega) (Or.inl (by omega)) hk
        clear he hk0
        go_wp2
        go_ret
        exact ⟨ret_int e.out.symm, rfl⟩
    · by_cases h2 : m = 1
      · subst h2
        have e : Hid (Wv.lgI n = k) := by rw [he, Nat.one_mul]; exact Wv.lgI_of k hk
        clear he hk0
        go_wp2
        go_ret
        exact ⟨ret_int e.out.symm, rfl⟩
      · obtain rfl : m = 0 := by omega
        have e : Hid (Wv.lgI n = -1) := by rw [he]; exact Wv.lgI_odd (by omega) (Or.inr rfl) hk
        clear he hk0
        go_wp2
        go_ret
        exact ⟨ret_int e.out.symm, rfl⟩
theorem sFault_any (ao : Option Addr) (n cap : Nat) (w : World) : Calls Tryd.prog 26 #[.slice ao n cap] w fun e w' => e = .returned (.int .i64 (Wv.wf n)) ∧ w = w' := by
  unfold Wv.wf
  by_cases h : 1024 < n
  · rw [if_pos h]
    go_enter Tryd.func26, Tryd.ntmps26
    go_wp2
    go_ret
    exact ⟨rfl, rfl⟩
  · rw [if_neg h]
    have hn : n ≤ 1024 := by omega
    by_cases h2 : Wv.lgI n < 0
    · rw [if_pos h2]
      go_enter Tryd.func26, Tryd.ntmps26
      go_wp2_with fail
      refine (log_any n hn _).mono ?_
      rintro e w1 ⟨rfl, rfl⟩
      go_wp2
      go_ret
      exact ⟨rfl, rfl⟩
    · rw [if_neg h2]
      go_enter Tryd.func26, Tryd.ntmps26
      go_wp2_with fail
      refine (log_any n hn _).mono ?_
      rintro e w1 ⟨rfl, rfl⟩
      go_wp2
      go_ret
      exact ⟨rfl, rfl⟩
theorem iFault_any (ao : Option Addr) (n cap : Nat) (w : World) : Calls Tryd.prog 31 #[.slice ao n cap] w fun e w' => e = .returned (.int .i64 (Wv.wf n)) ∧ w = w' := by
  unfold Wv.wf
  by_cases h : 1024 < n
  · rw [if_pos h]
    go_enter Tryd.func31, Tryd.ntmps31
    go_wp2
    go_ret
    exact ⟨rfl, rfl⟩
  · rw [if_neg h]
    have hn : n ≤ 1024 := by omega
    have hp := Wv.pc_ok ⟨n, by omega⟩
    simp only at hp
    by_cases h2 : Wv.lgI n < 0
    · rw [if_pos h2]
      have h3 : (Wv.pc n != 1) = true := by rw [decide_eq_false (by omega)] at hp; simp [bne, hp]
      clear hp
      go_enter Tryd.func31, Tryd.ntmps31
      go_wp2_with fail
      refine (ones n hn _).mono ?_
      rintro e w1 ⟨rfl, rfl⟩
      generalize Wv.pc n = p at *
      go_wp2
      go_ret
      exact ⟨rfl, rfl⟩
    · rw [if_neg h2]
      have h3 : (Wv.pc n != 1) = false := by rw [decide_eq_true (by omega)] at hp; simp [bne, hp]
      clear hp
      go_enter Tryd.func31, Tryd.ntmps31
      go_wp2_with fail
      refine (ones n hn _).mono ?_
      rintro e w1 ⟨rfl, rfl⟩
      generalize Wv.pc n = p at *
      go_wp2
      go_ret
      exact ⟨rfl, rfl⟩
set_option maxHeartbeats 1000000 in
theorem sBoth_any (ao ao' : Option Addr) (n m cap cap' : Nat) (w : World) : Calls Tryd.prog 12 #[.slice ao n cap, .slice ao' m cap'] w fun e w' => e = .returned (.int .i64 (Wv.pf n m)) ∧ w = w' := by
  have A : Hid (∀ w, Calls Tryd.prog 26 #[.slice ao n cap] w fun e w' => e = .returned (.int .i64 (Wv.wf n)) ∧ w = w') := sFault_any ao n cap
  have B : Hid (∀ w, Calls Tryd.prog 26 #[.slice ao' m cap'] w fun e w' => e = .returned (.int .i64 (Wv.wf m)) ∧ w = w') := sFault_any ao' m cap'
  unfold Wv.pf
  generalize Wv.wf n = c at *
  generalize Wv.wf m = d at *
  by_cases h : c = 0
  · rw [if_pos h]
    subst h
    by_cases h2 : d = 0
    · rw [if_pos h2]
      subst h2
      by_cases h3 : n = m
      · rw [if_pos h3]
        subst h3
        go_enter Tryd.func12, Tryd.ntmps12
        go_wp2_with fail
        refine (A.out _).mono ?_
        rintro e w1 ⟨rfl, rfl⟩
        go_wp2_with fail
        refine (B.out _).mono ?_
        rintro e w1 ⟨rfl, rfl⟩
        go_wp2
        go_ret
        exact ⟨rfl, rfl⟩
      · rw [if_neg h3]
        have h4 : ((n : Int) != (m : Int)) = true := by rw [bne_iff_ne]; omega
        clear h3
        go_enter Tryd.func12, Tryd.ntmps12
        go_wp2_with fail
        refine (A.out _).mono ?_
        rintro e w1 ⟨rfl, rfl⟩
        go_wp2_with fail
        refine (B.out _).mono ?_
        rintro e w1 ⟨rfl, rfl⟩
        go_wp2
        go_ret
        exact ⟨rfl, rfl⟩
    · rw [if_neg h2]
      have h4 : (d != 0) = true := by rw [bne_iff_ne]; exact h2
      go_enter Tryd.func12, Tryd.ntmps12
      go_wp2_with fail
      refine (A.out _).mono ?_
      rintro e w1 ⟨rfl, rfl⟩
      go_wp2_with fail
      refine (B.out _).mono ?_
      rintro e w1 ⟨rfl, rfl⟩
      go_wp2
      go_ret
      exact ⟨rfl, rfl⟩
  · rw [if_neg h]
    have h4 : (c != 0) = true := by rw [bne_iff_ne]; exact h
    go_enter Tryd.func12, Tryd.ntmps12
    go_wp2_with fail
    refine (A.out _).mono ?_
    rintro e w1 ⟨rfl, rfl⟩
    go_wp2
    go_ret
    exact ⟨rfl, rfl⟩
set_option maxHeartbeats 1000000 in
theorem iPair_any (ao ao' : Option Addr) (n m cap cap' : Nat) (w : World) : Calls Tryd.prog 17 #[.slice ao n cap, .slice ao' m cap'] w fun e w' => e = .returned (.int .i64 (Wv.pf n m)) ∧ w = w' := by
  have A : Hid (∀ w, Calls Tryd.prog 31 #[.slice ao n cap] w fun e w' => e = .returned (.int .i64 (Wv.wf n)) ∧ w = w') := iFault_any ao n cap
  have B : Hid (∀ w, Calls Tryd.prog 31 #[.slice ao' m cap'] w fun e w' => e = .returned (.int .i64 (Wv.wf m)) ∧ w = w') := iFault_any ao' m cap'
  unfold Wv.pf
  generalize Wv.wf n = c at *
  generalize Wv.wf m = d at *
  by_cases h : c = 0
  · rw [if_pos h]
    subst h
    by_cases h2 : d = 0
    · rw [if_pos h2]
      subst h2
      by_cases h3 : n = m
      · rw [if_pos h3]
        subst h3
        go_enter Tryd.func17, Tryd.ntmps17
        go_wp2_with fail
        refine (A.out _).mono ?_
        rintro e w1 ⟨rfl, rfl⟩
        go_wp2_with fail
        refine (B.out _).mono ?_
        rintro e w1 ⟨rfl, rfl⟩
        go_wp2
        go_ret
        exact ⟨rfl, rfl⟩
      · rw [if_neg h3]
        have h4 : ((n : Int) != (m : Int)) = true := by rw [bne_iff_ne]; omega
        clear h3
        go_enter Tryd.func17, Tryd.ntmps17
        go_wp2_with fail
        refine (A.out _).mono ?_
        rintro e w1 ⟨rfl, rfl⟩
        go_wp2_with fail
        refine (B.out _).mono ?_
        rintro e w1 ⟨rfl, rfl⟩
        go_wp2
        go_ret
        exact ⟨rfl, rfl⟩
    · rw [if_neg h2]
      have h4 : (d != 0) = true := by rw [bne_iff_ne]; exact h2
      go_enter Tryd.func17, Tryd.ntmps17
      go_wp2_with fail
      refine (A.out _).mono ?_
      rintro e w1 ⟨rfl, rfl⟩
      go_wp2_with fail
      refine (B.out _).mono ?_
      rintro e w1 ⟨rfl, rfl⟩
      go_wp2
      go_ret
      exact ⟨rfl, rfl⟩
  · rw [if_neg h]
    have h4 : (c != 0) = true := by rw [bne_iff_ne]; exact h
    go_enter Tryd.func17, Tryd.ntmps17
    go_wp2_with fail
    refine (A.out _).mono ?_
    rintro e w1 ⟨rfl, rfl⟩
    go_wp2
    go_ret
    exact ⟨rfl, rfl⟩
end Go.Proofs.YtpkbpikdffbadaaDoor
