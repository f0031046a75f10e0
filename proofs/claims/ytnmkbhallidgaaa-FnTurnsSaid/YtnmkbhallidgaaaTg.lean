/- A pair's parts taken as a value: plain laws. -/
import Derived.Test.YtnmkbhallidgaaaIt
namespace Go.Proofs.Ytnmkbhallidgaaa
open Go.RowKit Fl
set_option linter.unusedVariables false
set_option linter.unusedSimpArgs false
theorem field_of (k : Nat) (a b : Nat) (w : World) (h : ((Try.prog.fieldsOf 28)[k]?).map (fun f => (f.type, f.offset)) = some (26, k)) (hk : k = 0 ∨ k = 1) : (Instr.field 28 (.agg #[.float .f64 a, .float .f64 b]) k).run Try.prog w = .ok (.float .f64 (if k = 0 then a else b)) w := by
  cases hh : (Try.prog.fieldsOf 28)[k]? with
  | none => rw [hh] at h; cases h
  | some f =>
    rw [hh] at h
    simp only [Option.map_some, Option.some.injEq, Prod.mk.injEq] at h
    obtain ⟨h1, h2⟩ := h
    rcases hk with rfl | rfl <;> simp [Instr.field, run_underlying fields28.1, hh, h1, h2, asAgg, part, isAgg, run_underlying Try.underlying26]
theorem field_re (a b : Nat) (w : World) : (Instr.field 28 (.agg #[.float .f64 a, .float .f64 b]) 0).run Try.prog w = .ok (.float .f64 a) w := field_of 0 a b w (by kernel_rfl) (Or.inl rfl)
theorem field_im (a b : Nat) (w : World) : (Instr.field 28 (.agg #[.float .f64 a, .float .f64 b]) 1).run Try.prog w = .ok (.float .f64 b) w := field_of 1 a b w (by kernel_rfl) (Or.inr rfl)
theorem neg_runs (a : Nat) (w : World) : (Op.unary .neg (.float .f64 a)).run Try.prog w = .ok (.float .f64 (Op.negFloat .f64 a)) w := rfl
end Go.Proofs.Ytnmkbhallidgaaa
