/- Fractions and images compared with themselves. -/
import Derived.Test.YtdmjfphmgpkfcaaLwat
import Derived.Handy
import Derived.Laws.StructEq
namespace Go.Proofs.Ytdmjfphmgpkfcaa
open Go.RowKit
set_option linter.unusedVariables false
set_option linter.unusedSimpArgs false
theorem eq_int (d : Nat) (a b : Int) (w : World) : (Op.equalIn (d + 1) 2 (.int .i64 a) (.int .i64 b)).run Try.prog w = .ok (a == b) w := by
  simp [Op.equalIn, run_underlying Try.underlying2]
theorem size25r (w : World) : (sizeOf 25).run Try.prog w = .ok 2 w := by
  have h : (Try.prog.info? 25).map (·.size) = some 2 := by kernel_rfl
  obtain ⟨i, hi, hs⟩ := Option.map_eq_some_iff.1 h
  simp [sizeOf, typeInfo, hi, hs]
theorem fields25s : Try.prog.underlying 25 = some (.struct (Try.prog.fieldsOf 25)) ∧ Try.prog.stoodInHeld 25 = false := ⟨by kernel_rfl, by kernel_rfl⟩
theorem part25_0 (a b : Int) (w : World) : (part 2 #[.int .i64 a, .int .i64 b] 0).run Try.prog w = .ok (.int .i64 a) w := by
  simp [part, isAgg, run_underlying Try.underlying2]
theorem part25_1 (a b : Int) (w : World) : (part 2 #[.int .i64 a, .int .i64 b] 1).run Try.prog w = .ok (.int .i64 b) w := by
  simp [part, isAgg, run_underlying Try.underlying2]
theorem self25 (d : Nat) (a b : Int) (w : World) : (Op.equalIn (d + 2) 25 (.agg #[.int .i64 a, .int .i64 b]) (.agg #[.int .i64 a, .int .i64 b])).run Try.prog w = .ok true w := by
  rw [run_equalIn_struct w (d + 1) 25 _ _ fields25s.1 fields25s.2]
  have hf : (Try.prog.fieldsOf 25).toList.map (fun f => (f.name, f.type, f.offset)) = [("Num", 2, 0), ("Den", 2, 1)] := by kernel_rfl
  generalize (Try.prog.fieldsOf 25).toList = fs at hf
  obtain ⟨f0, f1, rfl⟩ : ∃ f0 f1, fs = [f0, f1] := by
    have h := congrArg List.length hf
    rw [List.length_map] at h
    match fs, h with
    | [b0, b1], _ => exact ⟨b0, b1, rfl⟩
  simp only [List.map_cons, List.map_nil, List.cons.injEq, Prod.mk.injEq, and_true] at hf
  obtain ⟨⟨n0, t0, o0⟩, n1, t1, o1⟩ := hf
  simp only [Op.eqFields, n0, t0, o0, n1, t1, o1]
  simp [Sem.run_bind, part25_0, part25_1, Result.andThen_ok, eq_int, Sem.run_pure]
theorem fields31s : Try.prog.underlying 31 = some (.struct (Try.prog.fieldsOf 31)) ∧ Try.prog.stoodInHeld 31 = false := ⟨by kernel_rfl, by kernel_rfl⟩
theorem part31_0 (k a b c e : Int) (w : World) : (part 2 #[.int .i64 k, .int .i64 a, .int .i64 b, .int .i64 c, .int .i64 e] 0).run Try.prog w = .ok (.int .i64 k) w := by
  simp [part, isAgg, run_underlying Try.underlying2]
theorem part31_1 (k a b c e : Int) (w : World) : (part 25 #[.int .i64 k, .int .i64 a, .int .i64 b, .int .i64 c, .int .i64 e] 1).run Try.prog w = .ok (.agg #[.int .i64 a, .int .i64 b]) w := by
  simp [part, isAgg, run_underlying Try.underlying25, size25r]
theorem part31_2 (k a b c e : Int) (w : World) : (part 25 #[.int .i64 k, .int .i64 a, .int .i64 b, .int .i64 c, .int .i64 e] 3).run Try.prog w = .ok (.agg #[.int .i64 c, .int .i64 e]) w := by
  simp [part, isAgg, run_underlying Try.underlying25, size25r]
theorem self31 (d : Nat) (k a b c e : Int) (w : World) : (Op.equalIn (d + 3) 31 (.agg #[.int .i64 k, .int .i64 a, .int .i64 b, .int .i64 c, .int .i64 e]) (.agg #[.int .i64 k, .int .i64 a, .int .i64 b, .int .i64 c, .int .i64 e])).run Try.prog w = .ok true w := by
  rw [run_equalIn_struct w (d + 2) 31 _ _ fields31s.1 fields31s.2]
  have hf : (Try.prog.fieldsOf 31).toList.map (fun f => (f.name, f.type, f.offset)) = [("Code", 2, 0), ("Back", 25, 1), ("Scale", 25, 3)] := by kernel_rfl
  generalize (Try.prog.fieldsOf 31).toList = fs at hf
  obtain ⟨f0, f1, f2, rfl⟩ : ∃ f0 f1 f2, fs = [f0, f1, f2] := by
    have h := congrArg List.length hf
    rw [List.length_map] at h
    match fs, h with
    | [b0, b1, b2], _ => exact ⟨b0, b1, b2, rfl⟩
  simp only [List.map_cons, List.map_nil, List.cons.injEq, Prod.mk.injEq, and_true] at hf
  obtain ⟨⟨n0, t0, o0⟩, ⟨n1, t1, o1⟩, n2, t2, o2⟩ := hf
  simp only [Op.eqFields, n0, t0, o0, n1, t1, o1, n2, t2, o2]
  simp [Sem.run_bind, part31_0, part31_1, part31_2, Result.andThen_ok, eq_int, self25, Sem.run_pure]
theorem eql25_same (a b : Int) (w : World) : (binOp .eql 25 (.agg #[.int .i64 a, .int .i64 b]) (.agg #[.int .i64 a, .int .i64 b])).run Try.prog w = .ok (.bool true) w := by
  have h : (Op.equal 25 (.agg #[.int .i64 a, .int .i64 b]) (.agg #[.int .i64 a, .int .i64 b])).run Try.prog w = .ok true w := self25 9998 a b w
  simp [binOp, go_sem, h]
theorem neq31_same (k a b c e : Int) (w : World) : (binOp .neq 31 (.agg #[.int .i64 k, .int .i64 a, .int .i64 b, .int .i64 c, .int .i64 e]) (.agg #[.int .i64 k, .int .i64 a, .int .i64 b, .int .i64 c, .int .i64 e])).run Try.prog w = .ok (.bool false) w := by
  have h : (Op.equal 31 (.agg #[.int .i64 k, .int .i64 a, .int .i64 b, .int .i64 c, .int .i64 e]) (.agg #[.int .i64 k, .int .i64 a, .int .i64 b, .int .i64 c, .int .i64 e])).run Try.prog w = .ok true w := self31 9997 k a b c e w
  simp [binOp, go_sem, h]
theorem field31_0 (k a b c e : Int) (w : World) : (Instr.field 31 (.agg #[.int .i64 k, .int .i64 a, .int .i64 b, .int .i64 c, .int .i64 e]) 0).run Try.prog w = .ok (.int .i64 k) w := by
  have h : ((Try.prog.fieldsOf 31)[0]?).map (fun f => (f.type, f.offset)) = some (2, 0) := by kernel_rfl
  obtain ⟨f, hf, e⟩ := Option.map_eq_some_iff.1 h
  simp only [Prod.mk.injEq] at e
  obtain ⟨h1, h2⟩ := e
  have hh : (Try.prog.fieldsOf 31)[0]? = some f := hf
  simp [Instr.field, run_underlying fields31s.1, hh, h1, h2, asAgg, part31_0]
end Go.Proofs.Ytdmjfphmgpkfcaa
