/- The lock-in: plainly; the program. -/
import Derived.Test.YtkkajcdjkfbcgaaLz
import Derived.Handy
import Derived.Deep.RegionHeld3
namespace Go.Proofs.Ytkkajcdjkfbcgaa
open Go.RowKit
set_option linter.unusedVariables false
set_option linter.unusedSimpArgs false
theorem RdRow.at {w : World} {v : Value} {n : Nat} {f : Nat → Int} (h : RdRow w v n f) : ∃ ao cap, v = .slice ao n cap ∧ ∀ i, i < n → ∃ b off, ao = some ⟨b, off, none⟩ ∧ w.cell? ⟨b, off + i, none⟩ = some (.int .i64 (f i)) := by
  rcases h with ⟨ao, cap, rfl, rfl⟩ | ⟨b, off, cap, rfl, hc⟩
  · exact ⟨ao, cap, rfl, fun i hi => by omega⟩
  · exact ⟨_, cap, rfl, fun i hi => ⟨b, off, rfl, hc i hi⟩⟩
structure Lform (n : Nat) (P : Int) : Prop where
  p0 : 4 ≤ P
  p1 : P ≤ 1000
  p4 : P % 4 = 0
  n0 : n ≠ 0
  np : (n : Int) % P = 0
def InB (f : Nat → Int) (n : Nat) : Prop := ∀ i, i < n → -1000000000 ≤ f i ∧ f i ≤ 1000000000
def lsum (f : Nat → Int) (P a : Int) : Nat → Int
  | 0 => 0
  | k + 1 => lsum f P a k + (if ((k : Int) + a) % P < P / 2 then f k else -(f k))
theorem lsum_bd {f : Nat → Int} {P a : Int} : ∀ {n : Nat}, InB f n → ∀ k, k ≤ n → -1000000000 * (k : Int) ≤ lsum f P a k ∧ lsum f P a k ≤ 1000000000 * (k : Int)
  | n, h, 0, _ => by simp [lsum]
  | n, h, k + 1, hk => by
    have := lsum_bd (P := P) (a := a) h k (by omega)
    have := h k (by omega)
    unfold lsum
    split <;> omega
theorem tmod_pos {x P : Int} (hx : 0 ≤ x) : x.tmod P = x % P := Int.tmod_eq_emod_of_nonneg hx
set_option maxRecDepth 20000 in
set_option maxHeartbeats 1600000 in
theorem bounds_ok {w : World} {v : Value} {n : Nat} {f : Nat → Int} (h : RdRow w v n f) (hb : InB f n) (hn : n ≤ 1000000) : Calls Try.prog 101 #[.int .i64 1000000000, v] w fun e w' => e = .returned (.int .i64 0) ∧ w = w' := by
  obtain ⟨ao, cap, rfl, hc⟩ := h.at
  have HC : Hid (∀ i, i < n → ∃ b off, ao = some ⟨b, off, none⟩ ∧ w.cell? ⟨b, off + i, none⟩ = some (.int .i64 (f i))) := hc
  have HB : Hid (InB f n) := hb
  clear h hc hb
  go_enter Try.func101, Try.ntmps101
  go_wp2_with fail
  go_loopw [9] (fun i wr => ∃ k : Nat, k ≤ n ∧ i = .int .i64 (k : Int) ∧ wr = w) (fun i _ => n - (intOf i).toNat)
  case atStart => exact ⟨0, Nat.zero_le _, rfl, rfl⟩
  case round =>
    obtain ⟨k, hk, rfl, rfl⟩ := hrel
    by_cases hkn : k < n
    · obtain ⟨b, off, rfl, c⟩ := HC.out k hkn
      have hx := HB.out k hkn
      clear HC HB
      go_wp2
      exact ⟨⟨k + 1, by omega, by simp, by trivial⟩, by simp [intOf]; omega⟩
    · obtain rfl : k = n := by omega
      clear HC HB
      go_wp2
      go_ret
      exact ⟨rfl, rfl⟩
set_option maxRecDepth 20000 in
set_option maxHeartbeats 1600000 in
theorem bounds_bad {w : World} {v : Value} {n : Nat} {f : Nat → Int} (h : RdRow w v n f) (hb : ¬ InB f n) (hn : n ≤ 1000000) : Calls Try.prog 101 #[.int .i64 1000000000, v] w fun e w' => e = .returned (.int .i64 3) ∧ w = w' := by
  obtain ⟨ao, cap, rfl, hc⟩ := h.at
  have HC : Hid (∀ i, i < n → ∃ b off, ao = some ⟨b, off, none⟩ ∧ w.cell? ⟨b, off + i, none⟩ = some (.int .i64 (f i))) := hc
  have HB : Hid (¬ InB f n) := hb
  clear h hc hb
  go_enter Try.func101, Try.ntmps101
  go_wp2_with fail
  go_loopw [9] (fun i wr => ∃ k : Nat, k ≤ n ∧ i = .int .i64 (k : Int) ∧ wr = w ∧ Hid (InB f k)) (fun i _ => n - (intOf i).toNat)
  case atStart => exact ⟨0, Nat.zero_le _, rfl, rfl, fun i hi => by omega⟩
  case round =>
    obtain ⟨k, hk, rfl, rfl, HK⟩ := hrel
    by_cases hkn : k < n
    · obtain ⟨b, off, rfl, c⟩ := HC.out k hkn
      clear HC
      by_cases hx : f k < -1000000000
      · clear HB HK
        go_wp2
        go_ret
        exact ⟨rfl, rfl⟩
      by_cases hy : 1000000000 < f k
      · clear HB HK
        go_wp2
        go_ret
        exact ⟨rfl, rfl⟩
      have HN : Hid (InB f (k + 1)) := fun i hi => by
        by_cases e : i = k
        · subst e; omega
        · exact HK.out i (by omega)
      clear HB HK
      go_wp2
      exact ⟨⟨k + 1, by omega, by simp, by trivial, HN⟩, by simp [intOf]; omega⟩
    · obtain rfl : k = n := by omega
      exact absurd HK.out HB.out
set_option maxRecDepth 20000 in
set_option maxHeartbeats 3200000 in
theorem locked_any {w : World} {v : Value} {n : Nat} {f : Nat → Int} {P a : Int} (h : RdRow w v n f) (hb : InB f n) (hn : n ≤ 4000) (hP : 4 ≤ P) (hP1 : P ≤ 1000) (ha : 0 ≤ a) (ha1 : a ≤ 1000) :
    Calls Try.prog 58 #[v, .int .i64 P, .int .i64 a] w fun e w' => e = .returned (.int .i64 (lsum f P a n)) ∧ w = w' := by
  obtain ⟨ao, cap, rfl, hc⟩ := h.at
  have HC : Hid (∀ i, i < n → ∃ b off, ao = some ⟨b, off, none⟩ ∧ w.cell? ⟨b, off + i, none⟩ = some (.int .i64 (f i))) := hc
  have HB : Hid (InB f n) := hb
  have e2 : P.tdiv 2 = P / 2 := Int.tdiv_eq_ediv_of_nonneg (by omega)
  have P0 : ¬ P = 0 := by omega
  obtain ⟨S, hS⟩ : ∃ S, S = lsum f P a n := ⟨_, rfl⟩
  rw [← hS]
  have HS : Hid (S = lsum f P a n) := hS
  clear h hc hb hS
  go_enter Try.func58, Try.ntmps58
  go_wp2_with fail
  go_loopw [7, 12] (fun s i wr => ∃ k : Nat, k ≤ n ∧ i = .int .i64 (k : Int) ∧ s = .int .i64 (lsum f P a k) ∧ wr = w) (fun _ i _ => n - (intOf i).toNat)
  case atStart => exact ⟨0, Nat.zero_le _, rfl, rfl, rfl⟩
  case round =>
    obtain ⟨k, hk, rfl, rfl, rfl⟩ := hrel
    by_cases hkn : k < n
    · obtain ⟨b, off, rfl, c⟩ := HC.out k hkn
      have hx := HB.out k hkn
      have hl := lsum_bd (P := P) (a := a) HB.out k hk
      have hN : lsum f P a (k + 1) = lsum f P a k + (if ((k : Int) + a) % P < P / 2 then f k else -(f k)) := rfl
      obtain ⟨R, hR⟩ : ∃ R, R = ((k : Int) + a) % P := ⟨_, rfl⟩
      obtain ⟨A, hA⟩ : ∃ A, A = lsum f P a k := ⟨_, rfl⟩
      have e1 : ((k : Int) + a).tmod P = R := by rw [tmod_pos (by omega), hR]
      rw [← hR, ← hA] at hN
      rw [← hA] at hl ⊢
      clear HC HB hR hA HS
      by_cases hlt : R < P / 2
      · rw [if_pos hlt] at hN
        have HN : Hid (lsum f P a (k + 1) = A + f k) := hN
        clear hN
        go_wp2
        exact ⟨⟨k + 1, by omega, by simp, by rw [HN.out], by trivial⟩, by simp [intOf]; omega⟩
      · rw [if_neg hlt] at hN
        have HN : Hid (lsum f P a (k + 1) = A - f k) := by show _ = _; rw [hN]; omega
        clear hN
        go_wp2
        exact ⟨⟨k + 1, by omega, by simp, by rw [HN.out], by trivial⟩, by simp [intOf]; omega⟩
    · obtain rfl : k = n := by omega
      rw [← HS.out]
      clear HC HB HS
      go_wp2
      go_ret
      exact ⟨rfl, rfl⟩
set_option maxRecDepth 20000 in
set_option maxHeartbeats 3200000 in
theorem lockF_form {w : World} {v : Value} {n : Nat} {f : Nat → Int} {P : Int} (h : RdRow w v n f) (hn : n ≤ 2000000) (hf : ¬ Lform n P) : Calls Try.prog 57 #[v, .int .i64 P] w fun e w' => e = .returned (.int .i64 1) ∧ w = w' := by
  obtain ⟨ao, cap, rfl, hc⟩ := h.at
  have HF : Hid (¬ Lform n P) := hf
  clear h hc hf
  by_cases p0 : P < 4
  · go_enter Try.func57, Try.ntmps57
    go_wp2
    go_ret
    exact ⟨rfl, rfl⟩
  by_cases p1 : 1000 < P
  · go_enter Try.func57, Try.ntmps57
    go_wp2
    go_ret
    exact ⟨rfl, rfl⟩
  have e1 : P.tmod 4 = P % 4 := tmod_pos (by omega)
  by_cases p4 : P % 4 = 0
  case neg =>
    obtain ⟨R, hR⟩ : ∃ R, R = P % 4 := ⟨_, rfl⟩
    rw [← hR] at e1 p4
    clear hR
    go_enter Try.func57, Try.ntmps57
    go_wp2
    go_ret
    exact ⟨rfl, rfl⟩
  rw [p4] at e1
  by_cases n0 : n = 0
  · subst n0
    go_enter Try.func57, Try.ntmps57
    go_wp2
    go_ret
    exact ⟨rfl, rfl⟩
  have n1 : ((n : Int) == 0) = false := by simp; omega
  have e2 : (n : Int).tmod P = (n : Int) % P := tmod_pos (by omega)
  have P0 : ¬ P = 0 := by omega
  by_cases np : (n : Int) % P = 0
  · exact absurd ⟨by omega, by omega, p4, n0, np⟩ HF.out
  · obtain ⟨R, hR⟩ : ∃ R, R = (n : Int) % P := ⟨_, rfl⟩
    rw [← hR] at e2 np
    clear hR p4
    go_enter Try.func57, Try.ntmps57
    go_wp2
    go_ret
    exact ⟨rfl, rfl⟩
set_option maxRecDepth 20000 in
set_option maxHeartbeats 3200000 in
theorem lockF_many {w : World} {v : Value} {n : Nat} {f : Nat → Int} {P : Int} (h : RdRow w v n f) (hn : n ≤ 2000000) (hf : Lform n P) (h4 : 4000 < n) : Calls Try.prog 57 #[v, .int .i64 P] w fun e w' => e = .returned (.int .i64 2) ∧ w = w' := by
  obtain ⟨ao, cap, rfl, hc⟩ := h.at
  clear h hc
  obtain ⟨p0, p1, p4, n0, np⟩ := hf
  have e1 : P.tmod 4 = 0 := by rw [tmod_pos (by omega)]; exact p4
  have e2 : (n : Int).tmod P = 0 := by rw [tmod_pos (by omega)]; exact np
  have P0 : ¬ P = 0 := by omega
  have n1 : ((n : Int) == 0) = false := by simp; omega
  clear p4 np
  go_enter Try.func57, Try.ntmps57
  go_wp2
  go_ret
  exact ⟨rfl, rfl⟩
set_option maxRecDepth 20000 in
set_option maxHeartbeats 3200000 in
theorem lockF_ok {w : World} {v : Value} {n : Nat} {f : Nat → Int} {P : Int} (h : RdRow w v n f) (hn : n ≤ 2000000) (hf : Lform n P) (h4 : n ≤ 4000) (hb : InB f n) : Calls Try.prog 57 #[v, .int .i64 P] w fun e w' => e = .returned (.int .i64 0) ∧ w = w' := by
  have HC : Hid (Calls Try.prog 101 #[.int .i64 1000000000, v] w fun e w' => e = .returned (.int .i64 0) ∧ w = w') := bounds_ok h hb (by omega)
  obtain ⟨ao, cap, rfl, hc⟩ := h.at
  clear h hc hb
  obtain ⟨p0, p1, p4, n0, np⟩ := hf
  have e1 : P.tmod 4 = 0 := by rw [tmod_pos (by omega)]; exact p4
  have e2 : (n : Int).tmod P = 0 := by rw [tmod_pos (by omega)]; exact np
  have P0 : ¬ P = 0 := by omega
  have n1 : ((n : Int) == 0) = false := by simp; omega
  clear p4 np
  go_enter Try.func57, Try.ntmps57
  go_wp2_with fail
  refine HC.out.mono ?_
  rintro e w1 ⟨rfl, rfl⟩
  go_wp2
  go_ret
  exact ⟨rfl, rfl⟩
set_option maxRecDepth 20000 in
set_option maxHeartbeats 3200000 in
theorem lockF_bad {w : World} {v : Value} {n : Nat} {f : Nat → Int} {P : Int} (h : RdRow w v n f) (hn : n ≤ 2000000) (hf : Lform n P) (h4 : n ≤ 4000) (hb : ¬ InB f n) : Calls Try.prog 57 #[v, .int .i64 P] w fun e w' => e = .returned (.int .i64 3) ∧ w = w' := by
  have HC : Hid (Calls Try.prog 101 #[.int .i64 1000000000, v] w fun e w' => e = .returned (.int .i64 3) ∧ w = w') := bounds_bad h hb (by omega)
  obtain ⟨ao, cap, rfl, hc⟩ := h.at
  clear h hc hb
  obtain ⟨p0, p1, p4, n0, np⟩ := hf
  have e1 : P.tmod 4 = 0 := by rw [tmod_pos (by omega)]; exact p4
  have e2 : (n : Int).tmod P = 0 := by rw [tmod_pos (by omega)]; exact np
  have P0 : ¬ P = 0 := by omega
  have n1 : ((n : Int) == 0) = false := by simp; omega
  clear p4 np
  go_enter Try.func57, Try.ntmps57
  go_wp2_with fail
  refine HC.out.mono ?_
  rintro e w1 ⟨rfl, rfl⟩
  go_wp2
  go_ret
  exact ⟨rfl, rfl⟩
end Go.Proofs.Ytkkajcdjkfbcgaa
