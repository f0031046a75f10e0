/- How systems, rays and parts that came in are opened. -/
import Derived.Test.YtdmjfphmgpkfcaaTl
namespace Go.Proofs.Ytdmjfphmgpkfcaa
open Go.ChangeShapes Go.WideShapes Go.ChangeAt Go.RowKit Go.Joins
set_option linter.unusedVariables false
theorem cells2 : Try.prog.cellsOf 2 = 1 := by kernel_rfl
theorem array8 {c : Array Value} (h : c.size = 8) : ∃ c0 c1 c2 c3 c4 c5 c6 c7, c = #[c0, c1, c2, c3, c4, c5, c6, c7] := by
  obtain ⟨l⟩ := c
  match l, h with
  | [c0, c1, c2, c3, c4, c5, c6, c7], _ => exact ⟨c0, c1, c2, c3, c4, c5, c6, c7, rfl⟩
theorem array4 {c : Array Value} (h : c.size = 4) : ∃ c0 c1 c2 c3, c = #[c0, c1, c2, c3] := by
  obtain ⟨l⟩ := c
  match l, h with
  | [c0, c1, c2, c3], _ => exact ⟨c0, c1, c2, c3, rfl⟩
theorem array3 {c : Array Value} (h : c.size = 3) : ∃ c0 c1 c2, c = #[c0, c1, c2] := by
  obtain ⟨l⟩ := c
  match l, h with
  | [c0, c1, c2], _ => exact ⟨c0, c1, c2, rfl⟩
end Go.Proofs.Ytdmjfphmgpkfcaa
