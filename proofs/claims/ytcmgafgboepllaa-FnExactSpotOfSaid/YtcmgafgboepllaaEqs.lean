/- The laws' own comparison of lists of floats, at lists that are the same float by float (all NaNs being one): a contract. -/
import Derived.Test.YtcmgafgboepllaaTos
import Derived.BigQuiet
namespace Go.Proofs.Ytcmgafgboepllaa
open Go.RowKit Fl
theorem quiet_eq {P : Program} {f : FuncId} {args : Array Value} {w : World} {n : Nat} {v : Value}
    (h : Calls P f args (w.drewN n) fun e w' => e = .returned v ∧ w.drewN n = w') : Calls P f args (w.drewN n) fun e w'' => e = .returned v ∧ ∃ m, w'' = w.drewN m :=
  h.mono fun _ _ ⟨he, hm⟩ => ⟨he, n, hm.symm⟩
set_option maxHeartbeats 800000 in
theorem eqF_some (b off cap b' off' cap' n : Nat) (f g : Nat → Nat) (w : World) (hn : n ≤ 1000000000000)
    (hc : ∀ i, i < n → w.cell? ⟨b, off + i, none⟩ = some (.float .f64 (f i))) (hc' : ∀ i, i < n → w.cell? ⟨b', off' + i, none⟩ = some (.float .f64 (g i)))
    (hf : ∀ i, i < n → f i < 18446744073709551616 ∧ g i < 18446744073709551616 ∧ cl (f i) = cl (g i)) :
    Calls Try.prog 23 #[.slice (some ⟨b, off, none⟩) n cap, .slice (some ⟨b', off', none⟩) n cap'] w fun e w' => e = .returned (.bool true) ∧ ∃ q, w' = w.drewN q := by
  have HF : Hid (∀ i, i < n → f i < 18446744073709551616 ∧ g i < 18446744073709551616 ∧ cl (f i) = cl (g i)) := hf
  clear hf
  go_enter Try.func23, Try.ntmps23
  go_wp2_with fail
  go_loopw [5] (fun i wr => ∃ k q : Nat, k ≤ n ∧ i = .int .i64 k ∧ wr = w.drewN q) (fun i _ => n - (intOf i).toNat)
  case atStart => exact ⟨0, 0, Nat.zero_le _, rfl, rfl⟩
  case round =>
    obtain ⟨k, q, hk, rfl, hq⟩ := hrel
    by_cases hkn : k < n
    · have g1 : wr.cell? ⟨b, off + k, none⟩ = some (.float .f64 (f k)) := by rw [hq]; exact hc k hkn
      have g2 : wr.cell? ⟨b', off' + k, none⟩ = some (.float .f64 (g k)) := by rw [hq]; exact hc' k hkn
      have HQ : Hid (wr = w.drewN q) := hq
      clear hq
      obtain ⟨x, hx⟩ : ∃ x, x = f k := ⟨_, rfl⟩
      obtain ⟨y, hy⟩ : ∃ y, y = g k := ⟨_, rfl⟩
      have HX : Hid (x < 18446744073709551616 ∧ y < 18446744073709551616 ∧ cl x = cl y) := by rw [hx, hy]; exact HF.out k hkn
      rw [← hx] at g1
      rw [← hy] at g2
      clear hc hc' hx hy HF
      go_wp2
      go_quiet (first | (go_at_call 42; exact quiet_eq (same_any HX.out.1 HX.out.2.1 HX.out.2.2 _)))
      go_wp2
      go_roundw
      case rel => exact ⟨k + 1, q + nq, by omega, by simp, by rw [HQ.out, World.drewN_drewN]⟩
      case measure => simp [intOf]; omega
    · obtain rfl : k = n := by omega
      clear hc hc' HF
      subst hq
      go_wp2
      go_ret
      exact ⟨rfl, q, rfl⟩
end Go.Proofs.Ytcmgafgboepllaa
