/- Small joints for the laws on rows. -/
import Derived.Test.YtboppklcmdfphaaMods
import Derived.Test.YtboppklcmdfphaaFaults
namespace Go.Proofs.Ytboppklcmdfphaa
open Go.RowKit
theorem told_no {n : Nat} {L : Nat → Nat} {left r : Int} (h : Told n L left r) (h0 : ¬r < 0) : r + n + Sm L n = left := by
  rcases h with rfl | ⟨_, h⟩
  · omega
  · exact h
theorem mat_all {lo hi hi' : Nat} {w : World} {m : Lie} {n : Nat} {L : Nat → Nat} {F : Rm.Mx} (h : Mat lo hi w m n L F) (hh : hi ≤ hi') : Mat 0 hi' w m n L F :=
  ⟨h.top, h.row, Nat.zero_le _, Nat.lt_of_lt_of_le h.bhi hh, fun _ _ => Nat.zero_le _, fun i hi => Nat.lt_of_lt_of_le (h.rhi i hi) hh, h.apart⟩
theorem OutR.shape {w : World} {c : Int} {v : Value} {n : Nat} {F : Rm.Mx} (h : OutR w c v n F) : ∃ ao k cap, v = .slice ao k cap := by
  rcases h with ⟨_, rfl⟩ | ⟨_, h⟩
  · exact ⟨none, 0, 0, rfl⟩
  · obtain ⟨ao, cap, e⟩ := h.shape
    exact ⟨ao, n, cap, e⟩
theorem OutL.shape {w : World} {c : Int} {v : Value} {n : Nat} {F : Nat → Int} (h : OutL w c v n F) : ∃ ao k cap, v = .slice ao k cap := by
  rcases h with ⟨_, rfl⟩ | ⟨_, h⟩
  · exact ⟨none, 0, 0, rfl⟩
  · obtain ⟨ao, cap, e⟩ := h.shape
    exact ⟨ao, n, cap, e⟩
end Go.Proofs.Ytboppklcmdfphaa
