/- Answers of two numbers, compared by the language. -/
import Derived.Test.YtelejihgechmgaaNums
import Derived.Laws.StructEq
namespace Go.Proofs.Ytelejihgechmgaa
open Go.RowKit
set_option linter.unusedVariables false
set_option linter.unusedSimpArgs false
theorem eq_int (d : Nat) (a b : Int) (w : World) : (Op.equalIn (d + 1) 2 (.int .i64 a) (.int .i64 b)).run Try.prog w = .ok (a == b) w := by
  simp [Op.equalIn, run_underlying Try.underlying2]
theorem fields36t : Try.prog.underlying 36 = some (.struct (Try.prog.fieldsOf 36)) ∧ Try.prog.stoodInHeld 36 = false := ⟨by kernel_rfl, by kernel_rfl⟩
theorem part36_0 (a b : Int) (w : World) : (part 2 #[.int .i64 a, .int .i64 b] 0).run Try.prog w = .ok (.int .i64 a) w := by
  simp [part, isAgg, run_underlying Try.underlying2]
theorem part36_1 (a b : Int) (w : World) : (part 2 #[.int .i64 a, .int .i64 b] 1).run Try.prog w = .ok (.int .i64 b) w := by
  simp [part, isAgg, run_underlying Try.underlying2]
theorem eq36 (d : Nat) (a b c e : Int) (w : World) : (Op.equalIn (d + 2) 36 (.agg #[.int .i64 a, .int .i64 b]) (.agg #[.int .i64 c, .int .i64 e])).run Try.prog w = .ok ((a == c) && (b == e)) w := by
  rw [run_equalIn_struct w (d + 1) 36 _ _ fields36t.1 fields36t.2]
  have hf : (Try.prog.fieldsOf 36).toList.map (fun f => (f.name, f.type, f.offset)) = [("Code", 2, 0), ("Merit", 2, 1)] := by kernel_rfl
  generalize (Try.prog.fieldsOf 36).toList = fs at hf
  obtain ⟨f0, f1, rfl⟩ : ∃ f0 f1, fs = [f0, f1] := by
    have h := congrArg List.length hf
    rw [List.length_map] at h
    match fs, h with
    | [b0, b1], _ => exact ⟨b0, b1, rfl⟩
  simp only [List.map_cons, List.map_nil, List.cons.injEq, Prod.mk.injEq, and_true] at hf
  obtain ⟨⟨n0, t0, o0⟩, n1, t1, o1⟩ := hf
  simp only [Op.eqFields, n0, t0, o0, n1, t1, o1]
  by_cases h1 : a = c
  · by_cases h2 : b = e
    · simp [Sem.run_bind, part36_0, part36_1, Result.andThen_ok, eq_int, Sem.run_pure, h1, h2]
    · simp [Sem.run_bind, part36_0, part36_1, Result.andThen_ok, eq_int, Sem.run_pure, h1, h2]
  · simp [Sem.run_bind, part36_0, part36_1, Result.andThen_ok, eq_int, Sem.run_pure, h1]
theorem neq36 (a b c e : Int) (w : World) : (binOp .neq 36 (.agg #[.int .i64 a, .int .i64 b]) (.agg #[.int .i64 c, .int .i64 e])).run Try.prog w = .ok (.bool (!((a == c) && (b == e)))) w := by
  have h : (Op.equal 36 (.agg #[.int .i64 a, .int .i64 b]) (.agg #[.int .i64 c, .int .i64 e])).run Try.prog w = .ok ((a == c) && (b == e)) w := eq36 9998 a b c e w
  simp [binOp, go_sem, h]
end Go.Proofs.Ytelejihgechmgaa
