/- Fields that do not know of one another: their fault, and their mix, plainly; the program's fault. -/
import Derived.Test.YtgidoceflkdklaaZz
import Derived.Deep.RegionHeld3
import Derived.Handy
namespace Go.Proofs.Ytgidoceflkdklaa
open Go.RowKit Fl
set_option linter.unusedVariables false
set_option linter.unusedSimpArgs false
/-- The first fault from field i on, of r fields. -/
def mfF (L : Nat → Nat) : Nat → Nat → Int
  | _, 0 => 0
  | i, r + 1 => if Wv.wf (L i) = 0 then (if L i = L 0 then mfF L (i + 1) r else 1) else Wv.wf (L i)
def mf (n : Nat) (L : Nat → Nat) : Int := if 16 < n then 2 else if n = 0 then 1 else mfF L 0 n
theorem mfF_ok {L : Nat → Nat} : ∀ {r i : Nat}, mfF L i r = 0 → ∀ j, i ≤ j → j < i + r → Wv.wf (L j) = 0 ∧ L j = L 0
  | 0, i, _, j, h1, h2 => by omega
  | r + 1, i, h, j, h1, h2 => by
    unfold mfF at h
    by_cases e : Wv.wf (L i) = 0
    · rw [if_pos e] at h
      by_cases e2 : L i = L 0
      · rw [if_pos e2] at h
        by_cases hj : j = i
        · subst hj; exact ⟨e, e2⟩
        · exact mfF_ok h j (by omega) (by omega)
      · rw [if_neg e2] at h; omega
    · rw [if_neg e] at h; exact absurd h e
theorem mf_ok {n : Nat} {L : Nat → Nat} (h : mf n L = 0) : 0 < n ∧ n ≤ 16 ∧ ∀ i, i < n → Wv.wf (L i) = 0 ∧ L i = L 0 := by
  unfold mf at h
  by_cases e : 16 < n
  · rw [if_pos e] at h; omega
  · rw [if_neg e] at h
    by_cases e2 : n = 0
    · rw [if_pos e2] at h; omega
    · rw [if_neg e2] at h
      exact ⟨by omega, by omega, fun i hi => mfF_ok h i (by omega) (by omega)⟩
theorem mfF_step {L : Nat → Nat} {i n : Nat} (hi : i < n) : mfF L i (n - i) = if Wv.wf (L i) = 0 then (if L i = L 0 then mfF L (i + 1) (n - (i + 1)) else 1) else Wv.wf (L i) := by
  rw [show n - i = (n - (i + 1)) + 1 by omega]; rfl
theorem mfF_end {L : Nat → Nat} {n : Nat} : mfF L n (n - n) = 0 := by rw [Nat.sub_self]; rfl
/-- The class of the sum of the first k norms at place j. -/
def mixS (o : Nat → Nat → Option Nat × Option Nat) (j : Nat) : Nat → Option Nat
  | 0 => cl 0
  | k + 1 => opC .add (mixS o j k) (normC (o k j))
def mixC (o : Nat → Nat → Option Nat × Option Nat) (n j : Nat) : Option Nat × Option Nat := (mixS o j n, cl 0)
set_option maxRecDepth 20000 in
set_option maxHeartbeats 3200000 in
theorem iModes_any (b off n cap : Nat) (R : Nat → Value) (L : Nat → Nat) (w : World) (hn : n ≤ 1000000000000) (hc : ∀ i, i < n → w.cell? ⟨b, off + i, none⟩ = some (R i) ∧ ∃ ao c, R i = .slice ao (L i) c) :
    Calls Try.prog 75 #[.slice (some ⟨b, off, none⟩) n cap] w fun e w' => e = .returned (.int .i64 (mf n L)) ∧ w = w' := by
  unfold mf
  by_cases h1 : 16 < n
  · rw [if_pos h1]
    clear hc
    have h1I : (16 : Int) < n := by omega
    go_enter Try.func75, Try.ntmps75
    go_wp2
    go_ret
    exact ⟨rfl, rfl⟩
  rw [if_neg h1]
  by_cases h2 : n = 0
  · rw [if_pos h2]
    clear hc
    subst h2
    go_enter Try.func75, Try.ntmps75
    go_wp2
    go_ret
    exact ⟨rfl, rfl⟩
  rw [if_neg h2]
  have HC : Hid (∀ i, i < n → w.cell? ⟨b, off + i, none⟩ = some (R i) ∧ ∃ ao c, R i = .slice ao (L i) c) := hc
  obtain ⟨g0, ao0, cp0, e0⟩ := hc 0 (by omega)
  rw [e0, Nat.add_zero] at g0
  clear hc e0
  have h2I : ¬ ((n : Int) = 0) := by omega
  have h1I : ¬ ((16 : Int) < n) := by omega
  obtain ⟨C, hC⟩ : ∃ C, C = mfF L 0 n := ⟨_, rfl⟩
  rw [← hC]
  have HE : Hid (C = mfF L 0 n) := hC
  clear hC
  go_enter Try.func75, Try.ntmps75
  go_wp2_with fail
  go_loopw [14] (fun i wr => wr = w ∧ ∃ k : Nat, k ≤ n ∧ i = .int .i64 k ∧ Hid (C = mfF L k (n - k))) (fun i _ => n - (intOf i).toNat)
  case atStart => exact ⟨rfl, 0, Nat.zero_le _, rfl, HE⟩
  case round =>
    obtain ⟨rfl, k, hk, rfl, HK⟩ := hrel
    clear HE
    by_cases hkn : k < n
    · obtain ⟨g1, ao1, cp1, e1⟩ := HC.out k hkn
      rw [e1] at g1
      clear e1
      have hst : C = if Wv.wf (L k) = 0 then (if L k = L 0 then mfF L (k + 1) (n - (k + 1)) else 1) else Wv.wf (L k) := by rw [HK.out]; exact mfF_step hkn
      have A : Hid (∀ w, Calls Try.prog 61 #[.slice ao1 (L k) cp1] w fun e w' => e = .returned (.int .i64 (Wv.wf (L k))) ∧ w = w') := fun w => iFault_any ao1 (L k) cp1 w
      by_cases q1 : Wv.wf (L k) = 0
      · rw [if_pos q1] at hst
        rw [q1] at A
        by_cases q2 : L k = L 0
        · rw [if_pos q2] at hst
          have HN : Hid (C = mfF L (k + 1) (n - (k + 1))) := hst
          have q2I : ((L k : Int) != (L 0 : Int)) = false := by rw [q2]; simp
          clear hst q2 q1 HK
          go_wp2_with (first | (go_at_call 61; refine (A.out _).mono ?_; rintro e w1 ⟨rfl, rfl⟩))
          go_roundw
          case rel => exact ⟨by trivial, k + 1, by omega, by simp, HN⟩
          case measure => simp [intOf]; omega
        · rw [if_neg q2] at hst
          subst hst
          have q2I : ((L k : Int) != (L 0 : Int)) = true := by rw [bne_iff_ne]; omega
          clear q1 HK
          go_wp2_with (first | (go_at_call 61; refine (A.out _).mono ?_; rintro e w1 ⟨rfl, rfl⟩))
          go_ret
          exact ⟨rfl, rfl⟩
      · rw [if_neg q1] at hst
        rw [← hst] at A q1
        have q1I : (C != 0) = true := by rw [bne_iff_ne]; exact q1
        clear hst q1 HK
        go_wp2_with (first | (go_at_call 61; refine (A.out _).mono ?_; rintro e w1 ⟨rfl, rfl⟩))
        go_ret
        exact ⟨rfl, rfl⟩
    · obtain rfl : k = n := by omega
      have e := HK.out
      rw [mfF_end] at e
      subst e
      go_wp2
      go_ret
      exact ⟨rfl, rfl⟩
end Go.Proofs.Ytgidoceflkdklaa
