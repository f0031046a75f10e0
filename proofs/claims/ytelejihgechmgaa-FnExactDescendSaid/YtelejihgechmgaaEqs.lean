/- The laws' own comparisons of lists and matrices, at equal contents: they answer yes and only read. Marks and what holds them: contracts. -/
import Derived.Test.YtelejihgechmgaaToss
namespace Go.Proofs.Ytelejihgechmgaa
open Go.RowKit
theorem quiet_eq {P : Program} {f : FuncId} {args : Array Value} {w : World} {n : Nat} {v : Value}
    (h : Calls P f args (w.drewN n) fun e w' => e = .returned v ∧ w.drewN n = w') : Calls P f args (w.drewN n) fun e w'' => e = .returned v ∧ ∃ m, w'' = w.drewN m :=
  h.mono fun _ _ ⟨he, hm⟩ => ⟨he, n, hm.symm⟩
theorem RdRow.drewN {w : World} {v : Value} {n : Nat} {f : Nat → Int} (h : RdRow w v n f) (q : Nat) : RdRow (w.drewN q) v n f := by
  rcases h with h | ⟨b, off, cap, rfl, h⟩
  · exact Or.inl h
  · exact Or.inr ⟨b, off, cap, rfl, fun i hi => by rw [World.cell?_drewN]; exact h i hi⟩
set_option maxHeartbeats 800000 in
theorem eqS_some (b off cap b' off' cap' n : Nat) (f : Nat → Int) (w : World) (hn : n ≤ 1000000000000)
    (hc : ∀ i, i < n → w.cell? ⟨b, off + i, none⟩ = some (.int .i64 (f i))) (hc' : ∀ i, i < n → w.cell? ⟨b', off' + i, none⟩ = some (.int .i64 (f i))) :
    Calls Try.prog 36 #[.slice (some ⟨b, off, none⟩) n cap, .slice (some ⟨b', off', none⟩) n cap'] w fun e w' => e = .returned (.bool true) ∧ ∃ q, w' = w.drewN q := by
  go_enter Try.func36, Try.ntmps36
  go_wp2_with fail
  go_loopw [5] (fun i wr => ∃ k q : Nat, k ≤ n ∧ i = .int .i64 k ∧ wr = w.drewN q) (fun i _ => n - (intOf i).toNat)
  case atStart => exact ⟨0, 0, Nat.zero_le _, rfl, rfl⟩
  case round =>
    obtain ⟨k, q, hk, rfl, rfl⟩ := hrel
    by_cases hkn : k < n
    · have g1 := hc k hkn
      have g2 := hc' k hkn
      clear hc hc'
      go_wp2
      go_quiet (fail)
      go_wp2
      go_roundw
      case rel => exact ⟨k + 1, q + nq, by omega, by simp, by first | rfl | rw [World.drewN_drewN]⟩
      case measure => simp [intOf]; omega
    · obtain rfl : k = n := by omega
      clear hc hc'
      go_wp2
      go_ret
      exact ⟨rfl, q, rfl⟩
theorem eqS_none (ao ao' : Option Addr) (cap cap' : Nat) (w : World) :
    Calls Try.prog 36 #[.slice ao 0 cap, .slice ao' 0 cap'] w fun e w' => e = .returned (.bool true) ∧ ∃ q, w' = w.drewN q := by
  go_enter Try.func36, Try.ntmps36
  go_wp2_with fail
  refine wp_loop_rounds 1 ?_
  rw [rounds_succ]
  go_wp2
  go_ret
  exact ⟨rfl, 0, rfl⟩
theorem eqS_any {w : World} {v v' : Value} {n : Nat} {f : Nat → Int} (h : RdRow w v n f) (h' : RdRow w v' n f) (hn : n ≤ 1000000000000) :
    Calls Try.prog 36 #[v, v'] w fun e w' => e = .returned (.bool true) ∧ ∃ q, w' = w.drewN q := by
  rcases h with ⟨ao, cap, rfl, rfl⟩ | ⟨b, off, cap, rfl, hc⟩
  · rcases h' with ⟨ao', cap', rfl, _⟩ | ⟨b', off', cap', rfl, hc'⟩
    · exact eqS_none _ _ _ _ w
    · exact eqS_none _ _ _ _ w
  · rcases h' with ⟨ao', cap', rfl, rfl⟩ | ⟨b', off', cap', rfl, hc'⟩
    · exact eqS_none _ _ _ _ w
    · exact eqS_some b off cap b' off' cap' n f w hn hc hc'
set_option maxHeartbeats 800000 in
theorem eqSS_some (b off cap b' off' cap' n : Nat) (vs vs' : Nat → Value) (L : Nat → Nat) (F : Rm.Mx) (w : World) (hn : n ≤ 1000000000000) (hL : ∀ i, i < n → L i ≤ 1000000000000)
    (hc : ∀ i, i < n → w.cell? ⟨b, off + i, none⟩ = some (vs i) ∧ RdRow w (vs i) (L i) (F i)) (hc' : ∀ i, i < n → w.cell? ⟨b', off' + i, none⟩ = some (vs' i) ∧ RdRow w (vs' i) (L i) (F i)) :
    Calls Try.prog 77 #[.slice (some ⟨b, off, none⟩) n cap, .slice (some ⟨b', off', none⟩) n cap'] w fun e w' => e = .returned (.bool true) ∧ ∃ q, w' = w.drewN q := by
  go_enter Try.func77, Try.ntmps77
  go_wp2_with fail
  go_loopw [5] (fun i wr => ∃ k q : Nat, k ≤ n ∧ i = .int .i64 k ∧ wr = w.drewN q) (fun i _ => n - (intOf i).toNat)
  case atStart => exact ⟨0, 0, Nat.zero_le _, rfl, rfl⟩
  case round =>
    obtain ⟨k, q, hk, rfl, hq⟩ := hrel
    by_cases hkn : k < n
    · obtain ⟨g1, r1⟩ : wr.cell? ⟨b, off + k, none⟩ = some (vs k) ∧ RdRow wr (vs k) (L k) (F k) := by rw [hq]; exact ⟨(hc k hkn).1, (hc k hkn).2.drewN q⟩
      obtain ⟨g2, r2⟩ : wr.cell? ⟨b', off' + k, none⟩ = some (vs' k) ∧ RdRow wr (vs' k) (L k) (F k) := by rw [hq]; exact ⟨(hc' k hkn).1, (hc' k hkn).2.drewN q⟩
      have HQ : Hid (wr = w.drewN q) := hq
      clear hq
      have gL := hL k hkn
      clear hc hc' hL
      go_wp2
      go_quiet (first | (go_at_call 36; exact Calls.quiet_of (eqS_any (r1.drewN _) (r2.drewN _) gL)))
      go_wp2
      go_roundw
      case rel => exact ⟨k + 1, q + nq, by omega, by simp, by rw [HQ.out, World.drewN_drewN]⟩
      case measure => simp [intOf]; omega
    · obtain rfl : k = n := by omega
      clear hc hc' hL
      subst hq
      go_wp2
      go_ret
      exact ⟨rfl, q, rfl⟩
theorem eqSS_none (ao ao' : Option Addr) (cap cap' : Nat) (w : World) :
    Calls Try.prog 77 #[.slice ao 0 cap, .slice ao' 0 cap'] w fun e w' => e = .returned (.bool true) ∧ ∃ q, w' = w.drewN q := by
  go_enter Try.func77, Try.ntmps77
  go_wp2_with fail
  refine wp_loop_rounds 1 ?_
  rw [rounds_succ]
  go_wp2
  go_ret
  exact ⟨rfl, 0, rfl⟩
theorem eqSS_any {w : World} {v v' : Value} {n : Nat} {L : Nat → Nat} {F : Rm.Mx} (h : RdMat w v n L F) (h' : RdMat w v' n L F) (hn : n ≤ 1000000000000) (hL : ∀ i, i < n → L i ≤ 1000000000000) :
    Calls Try.prog 77 #[v, v'] w fun e w' => e = .returned (.bool true) ∧ ∃ q, w' = w.drewN q := by
  rcases h with ⟨ao, cap, rfl, rfl⟩ | ⟨b, off, cap, vs, rfl, hc⟩
  · rcases h' with ⟨ao', cap', rfl, _⟩ | ⟨b', off', cap', vs', rfl, hc'⟩
    · exact eqSS_none _ _ _ _ w
    · exact eqSS_none _ _ _ _ w
  · rcases h' with ⟨ao', cap', rfl, rfl⟩ | ⟨b', off', cap', vs', rfl, hc'⟩
    · exact eqSS_none _ _ _ _ w
    · exact eqSS_some b off cap b' off' cap' n vs vs' L F w hn hL hc hc'
end Go.Proofs.Ytelejihgechmgaa
