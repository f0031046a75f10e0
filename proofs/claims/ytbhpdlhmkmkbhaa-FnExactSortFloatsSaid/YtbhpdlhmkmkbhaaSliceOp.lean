/- Cutting a slice of floats in two: what the operation gives. -/
import Derived.Test.YtbhpdlhmkmkbhaaDots
namespace Go.Proofs.Ytbhpdlhmkmkbhaa
open Go.RowKit Fl
theorem cut_low (b off n cap h : Nat) (hc : h ≤ cap) (w : World) : (Instr.slice 34 (.slice (some ⟨b, off, none⟩) n cap) none (some (.int .i64 h)) none).run Try.prog w = .ok (.slice (some ⟨b, off, none⟩) h cap) w := by
  have h1 : (0 : Int) ≤ (h : Int) ∧ (h : Int) ≤ (cap : Int) := by omega
  simp [Instr.slice, Instr.sliceBounds, Instr.sliceBound, asIntOf, run_underlying Try.underlying34, h1, Addr.add]
  intro k
  omega
theorem cut_high (b off n cap h : Nat) (hn : h ≤ n) (hc : h < cap) (w : World) : (Instr.slice 34 (.slice (some ⟨b, off, none⟩) n cap) (some (.int .i64 h)) none none).run Try.prog w = .ok (.slice (some ⟨b, off + h, none⟩) (n - h) (cap - h)) w := by
  have h1 : (0 : Int) ≤ (h : Int) ∧ (h : Int) ≤ (n : Int) := by omega
  have h2 : ¬ cap = h := by omega
  simp [Instr.slice, Instr.sliceBounds, Instr.sliceBound, asIntOf, run_underlying Try.underlying34, h1, h2, Addr.add]
  rw [if_pos hn]
  by_cases h0 : h = 0
  · rw [if_pos h0, h0, Nat.add_zero]
  · rw [if_neg h0]
end Go.Proofs.Ytbhpdlhmkmkbhaa
