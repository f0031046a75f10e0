/- Beams: whether a number has the residue 0; the codes of a list and a beam: contracts of both packages. -/
import Derived.Test.YtegieakbpbaciaaPv
namespace Go.Proofs.Ytegieakbpbaciaa
open Go.RowKit
set_option linter.unusedVariables false
namespace Wv
/-- One of the first k numbers has the residue 0. -/
def bz (g : Nat → Int) : Nat → Bool | 0 => false | k + 1 => bz g k || (Rm.md (g k) == 0)
theorem bz_mono {g : Nat → Int} {k : Nat} (h : bz g k = true) : ∀ m, bz g (k + m) = true
  | 0 => h
  | m + 1 => by rw [← Nat.add_assoc, bz, bz_mono h m]; rfl
theorem bz_le {g : Nat → Int} {k n : Nat} (h : bz g k = true) (hk : k ≤ n) : bz g n = true := by
  have := bz_mono h (n - k)
  rwa [Nat.add_sub_cancel' hk] at this
/-- The code of a list and a beam. -/
def hf (n m : Nat) (g : Nat → Int) : Int := if pf n m = 0 then (if bz g m = true then 6 else 0) else pf n m
theorem hf_ok {n m : Nat} {g : Nat → Int} (h : hf n m g = 0) : pf n m = 0 ∧ bz g m = false := by
  unfold hf at h
  split at h
  · split at h
    · omega
    · rename_i h1 h2; exact ⟨h1, by simpa using h2⟩
  · contradiction
theorem hf_pf {n m : Nat} {g : Nat → Int} (h : pf n m ≠ 0) : hf n m g = pf n m := by unfold hf; rw [if_neg h]
theorem hf_bz {n m : Nat} {g : Nat → Int} (h : pf n m = 0) (h2 : bz g m = true) : hf n m g = 6 := by unfold hf; rw [if_pos h, if_pos h2]
theorem hf_no {n m : Nat} {g : Nat → Int} (h : pf n m = 0) (h2 : bz g m = false) : hf n m g = 0 := by unfold hf; rw [if_pos h, if_neg (by simp [h2])]
end Wv
set_option maxHeartbeats 1000000 in
theorem sBeam_any {w : World} {v : Value} {n : Nat} {g : Nat → Int} (h : RdRow w v n g) (h0 : 0 < n) (hn : n ≤ 1000000) : Calls Try.prog 28 #[v] w fun e w' => e = .returned (.bool (!Wv.bz g n)) ∧ w = w' := by
  obtain ⟨b, off, cap, rfl, hc⟩ := h.get h0
  go_enter Try.func28, Try.ntmps28
  go_wp2_with fail
  go_loopw [3] (fun i wr => wr = w ∧ ∃ k : Nat, k ≤ n ∧ i = .int .i64 k ∧ Hid (Wv.bz g k = false)) (fun i _ => n - (intOf i).toNat)
  case atStart => exact ⟨rfl, 0, Nat.zero_le _, rfl, rfl⟩
  case round =>
    obtain ⟨rfl, k, hk, rfl, HZ⟩ := hrel
    by_cases hkn : k < n
    · have gc := hc k hkn
      clear hc
      by_cases h2 : Rm.md (g k) = 0
      · have h3 : (Rm.md (g k) == 0) = true := by simp [h2]
        have HE : Hid (Wv.bz g n = true) := Wv.bz_le (k := k + 1) (by rw [Wv.bz, h3]; simp) hkn
        clear h2
        go_wp2_with fail
        refine (l2Mod_any _ _).mono ?_
        rintro e w1 ⟨rfl, rfl⟩
        go_wp2
        go_ret
        exact ⟨by rw [HE.out]; rfl, rfl⟩
      · have h3 : (Rm.md (g k) == 0) = false := by simp [h2]
        have HE : Hid (Wv.bz g (k + 1) = false) := by show Wv.bz g (k + 1) = false; rw [Wv.bz, HZ.out, h3]; rfl
        clear h2
        go_wp2_with fail
        refine (l2Mod_any _ _).mono ?_
        rintro e w1 ⟨rfl, rfl⟩
        go_wp2
        go_roundw
        case rel => exact ⟨by trivial, k + 1, by omega, by simp, HE⟩
        case measure => simp [intOf]; omega
    · obtain rfl : k = n := by omega
      clear hc
      go_wp2
      go_ret
      exact ⟨by rw [HZ.out]; rfl, rfl⟩
set_option maxHeartbeats 1000000 in
theorem iHolo_any {w : World} {v0 v1 : Value} {n m : Nat} {f g : Nat → Int} (h : RdRow w v0 n f) (h' : RdRow w v1 m g) (hn : n ≤ 1000000000000) (hm : m ≤ 1000000000000) : Calls Try.prog 30 #[v0, v1] w fun e w' => e = .returned (.int .i64 (Wv.hf n m g)) ∧ w = w' := by
  obtain ⟨ao, cap, e0⟩ := h.shape
  obtain ⟨ao', cap', e1⟩ := h'.shape
  subst e0
  have A : Hid (∀ w, Calls Try.prog 23 #[.slice ao n cap, v1] w fun e w' => e = .returned (.int .i64 (Wv.pf n m)) ∧ w = w') := fun w => by rw [e1]; exact iPair_any ao ao' n m cap cap' w
  by_cases hp : Wv.pf n m = 0
  · obtain ⟨hw, rfl⟩ := Wv.pf_ok hp
    have hle := Wv.wf_le hw
    obtain ⟨b, off, cap', rfl, hc⟩ := h'.get (by omega)
    rw [hp] at A
    have HP : Hid (Wv.pf m m = 0) := hp
    clear hp hw h h'
    go_enter Try.func30, Try.ntmps30
    go_wp2_with fail
    refine (A.out _).mono ?_
    rintro e w1 ⟨rfl, rfl⟩
    go_wp2_with fail
    go_loopw [15] (fun i wr => wr = w ∧ ∃ k : Nat, k ≤ m ∧ i = .int .i64 k ∧ Hid (Wv.bz g k = false)) (fun i _ => m - (intOf i).toNat)
    case atStart => exact ⟨rfl, 0, Nat.zero_le _, rfl, rfl⟩
    case round =>
      obtain ⟨rfl, k, hk, rfl, HZ⟩ := hrel
      by_cases hkn : k < m
      · have gc := hc k hkn
        clear hc
        by_cases h2 : Rm.md (g k) = 0
        · have h3 : (Rm.md (g k) == 0) = true := by simp [h2]
          have HE : Hid (Wv.bz g m = true) := Wv.bz_le (k := k + 1) (by rw [Wv.bz, h3]; simp) hkn
          clear h2
          go_wp2_with fail
          refine (residue_any _ _).mono ?_
          rintro e w1 ⟨rfl, rfl⟩
          go_wp2
          go_ret
          exact ⟨ret_int (by rw [Wv.hf_bz HP.out HE.out]), rfl⟩
        · have h3 : (Rm.md (g k) == 0) = false := by simp [h2]
          have HE : Hid (Wv.bz g (k + 1) = false) := by show Wv.bz g (k + 1) = false; rw [Wv.bz, HZ.out, h3]; rfl
          clear h2
          go_wp2_with fail
          refine (residue_any _ _).mono ?_
          rintro e w1 ⟨rfl, rfl⟩
          go_wp2
          go_roundw
          case rel => exact ⟨by trivial, k + 1, by omega, by simp, HE⟩
          case measure => simp [intOf]; omega
      · obtain rfl : k = m := by omega
        clear hc
        go_wp2
        go_ret
        exact ⟨ret_int (by rw [Wv.hf_no HP.out HZ.out]), rfl⟩
  · rw [Wv.hf_pf hp]
    clear h h'
    subst e1
    generalize Wv.pf n m = c at *
    have hc : (c != 0) = true := by rw [bne_iff_ne]; exact hp
    clear hp
    go_enter Try.func30, Try.ntmps30
    go_wp2_with fail
    refine (A.out _).mono ?_
    rintro e w1 ⟨rfl, rfl⟩
    go_wp2
    go_ret
    exact ⟨rfl, rfl⟩
end Go.Proofs.Ytegieakbpbaciaa
