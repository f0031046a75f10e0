/- The laws' own comparisons of lists and matrices, at equal contents: they answer yes and only read. Marks and what holds them: contracts. -/
import Derived.Test.YtclnmikneomccaaToss
namespace Go.Proofs.Ytclnmikneomccaa
open Go.RowKit
theorem quiet_eq {P : Program} {f : FuncId} {args : Array Value} {w : World} {n : Nat} {v : Value}
    (h : Calls P f args (w.drewN n) fun e w' => e = .returned v ∧ w.drewN n = w') : Calls P f args (w.drewN n) fun e w'' => e = .returned v ∧ ∃ m, w'' = w.drewN m :=
  h.mono fun _ _ ⟨he, hm⟩ => ⟨he, n, hm.symm⟩
theorem RdRow.drewN {w : World} {v : Value} {n : Nat} {f : Nat → Int} (h : RdRow w v n f) (q : Nat) : RdRow (w.drewN q) v n f := by
  rcases h with h | ⟨b, off, cap, rfl, h⟩
  · exact Or.inl h
  · exact Or.inr ⟨b, off, cap, rfl, fun i hi => by rw [World.cell?_drewN]; exact h i hi⟩
set_option maxHeartbeats 800000 in
theorem eqS_some (b off cap b' off' cap' n : Nat) (f : Nat → Int) (w : World) (hn : n ≤ 1000000000000)
    (hc : ∀ i, i < n → w.cell? ⟨b, off + i, none⟩ = some (.int .i64 (f i))) (hc' : ∀ i, i < n → w.cell? ⟨b', off' + i, none⟩ = some (.int .i64 (f i))) :
    Calls Try.prog 51 #[.slice (some ⟨b, off, none⟩) n cap, .slice (some ⟨b', off', none⟩) n cap'] w fun e w' => e = .returned (.bool true) ∧ ∃ q, w' = w.drewN q := by
  go_enter Try.func51, Try.ntmps51
  go_wp2_with fail
  go_loopw [5] (fun i wr => ∃ k q : Nat, k ≤ n ∧ i = .int .i64 k ∧ wr = w.drewN q) (fun i _ => n - (intOf i).toNat)
  case atStart => exact ⟨0, 0, Nat.zero_le _, rfl, rfl⟩
  case round =>
    obtain ⟨k, q, hk, rfl, rfl⟩ := hrel
    by_cases hkn : k < n
    · have g1 := hc k hkn
      have g2 := hc' k hkn
      clear hc hc'
      go_wp2
      go_quiet (fail)
      go_wp2
      go_roundw
      case rel => exact ⟨k + 1, q + nq, by omega, by simp, by first | rfl | rw [World.drewN_drewN]⟩
      case measure => simp [intOf]; omega
    · obtain rfl : k = n := by omega
      clear hc hc'
      go_wp2
      go_ret
      exact ⟨rfl, q, rfl⟩
theorem eqS_none (ao ao' : Option Addr) (cap cap' : Nat) (w : World) :
    Calls Try.prog 51 #[.slice ao 0 cap, .slice ao' 0 cap'] w fun e w' => e = .returned (.bool true) ∧ ∃ q, w' = w.drewN q := by
  go_enter Try.func51, Try.ntmps51
  go_wp2_with fail
  refine wp_loop_rounds 1 ?_
  rw [rounds_succ]
  go_wp2
  go_ret
  exact ⟨rfl, 0, rfl⟩
theorem eqS_any {w : World} {v v' : Value} {n : Nat} {f : Nat → Int} (h : RdRow w v n f) (h' : RdRow w v' n f) (hn : n ≤ 1000000000000) :
    Calls Try.prog 51 #[v, v'] w fun e w' => e = .returned (.bool true) ∧ ∃ q, w' = w.drewN q := by
  rcases h with ⟨ao, cap, rfl, rfl⟩ | ⟨b, off, cap, rfl, hc⟩
  · rcases h' with ⟨ao', cap', rfl, _⟩ | ⟨b', off', cap', rfl, hc'⟩
    · exact eqS_none _ _ _ _ w
    · exact eqS_none _ _ _ _ w
  · rcases h' with ⟨ao', cap', rfl, rfl⟩ | ⟨b', off', cap', rfl, hc'⟩
    · exact eqS_none _ _ _ _ w
    · exact eqS_some b off cap b' off' cap' n f w hn hc hc'
end Go.Proofs.Ytclnmikneomccaa
