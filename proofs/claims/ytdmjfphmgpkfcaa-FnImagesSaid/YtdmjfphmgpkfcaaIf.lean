/- Foci: the program's way. -/
import Derived.Test.YtdmjfphmgpkfcaaFo
namespace Go.Proofs.Ytdmjfphmgpkfcaa
open Go.RowKit
set_option linter.unusedVariables false
set_option linter.unusedSimpArgs false
theorem fo_flag (m : Mx) (h : m.ok = true) (hz : ¬ m.C.n = 0) : foC m = if (((false || !divK mone m.C) || !divK (nQ m.D) m.C) || !divK (nQ m.A) m.C) = true then 3 else 0 := by
  unfold foC foK
  rw [if_pos h, if_neg hz]
  cases divK mone m.C <;> cases divK (nQ m.D) m.C <;> cases divK (nQ m.A) m.C <;> rfl
theorem nil_den {x : Q} (h : x.ok = true) (hn : x.n = 0) : x.d = 1 := by
  obtain ⟨h1, _, _, _, hg⟩ := right_t h
  rw [hn] at hg
  simp at hg
  omega
theorem iint_mone (w : World) : Calls Try.prog 26 #[.int .i64 (-1)] w fun e w' => e = .returned (.agg #[.int .i64 mone.n, .int .i64 mone.d]) ∧ Below w.heap.size w w' := iint (-1) w
theorem iint_nil (w : World) : Calls Try.prog 26 #[.int .i64 0] w fun e w' => e = .returned (.agg #[.int .i64 nil.n, .int .i64 nil.d]) ∧ Below w.heap.size w w' := iint 0 w
end Go.Proofs.Ytdmjfphmgpkfcaa
