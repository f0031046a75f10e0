/- Structs compared with themselves: lights, results of light. -/
import Derived.Test.YtloebnlmeplgbaaJe
import Derived.Handy
import Derived.Laws.StructEq
namespace Go.Proofs.Ytloebnlmeplgbaa
open Go.RowKit
set_option linter.unusedVariables false
set_option linter.unusedSimpArgs false
theorem size25r (w : World) : (sizeOf 25).run Try.prog w = .ok 2 w := by
  have h : (Try.prog.info? 25).map (·.size) = some 2 := by kernel_rfl
  obtain ⟨i, hi, hs⟩ := Option.map_eq_some_iff.1 h
  simp [sizeOf, typeInfo, hi, hs]
theorem size29r (w : World) : (sizeOf 29).run Try.prog w = .ok 4 w := by
  have h : (Try.prog.info? 29).map (·.size) = some 4 := by kernel_rfl
  obtain ⟨i, hi, hs⟩ := Option.map_eq_some_iff.1 h
  simp [sizeOf, typeInfo, hi, hs]
theorem size36r (w : World) : (sizeOf 36).run Try.prog w = .ok 4 w := by
  have h : (Try.prog.info? 36).map (·.size) = some 4 := by kernel_rfl
  obtain ⟨i, hi, hs⟩ := Option.map_eq_some_iff.1 h
  simp [sizeOf, typeInfo, hi, hs]
theorem fields25s : Try.prog.underlying 25 = some (.struct (Try.prog.fieldsOf 25)) ∧ Try.prog.stoodInHeld 25 = false := ⟨by kernel_rfl, by kernel_rfl⟩
theorem part25_0 (a b : Int) (w : World) : (part 2 #[.int .i64 a, .int .i64 b] 0).run Try.prog w = .ok (.int .i64 a) w := by
  simp [part, isAgg, run_underlying Try.underlying2]
theorem part25_1 (a b : Int) (w : World) : (part 2 #[.int .i64 a, .int .i64 b] 1).run Try.prog w = .ok (.int .i64 b) w := by
  simp [part, isAgg, run_underlying Try.underlying2]
theorem self25 (d : Nat) (a b : Int) (w : World) : (Op.equalIn (d + 2) 25 (.agg #[.int .i64 a, .int .i64 b]) (.agg #[.int .i64 a, .int .i64 b])).run Try.prog w = .ok true w := by
  rw [run_equalIn_struct w (d + 1) 25 _ _ fields25s.1 fields25s.2]
  have hf : (Try.prog.fieldsOf 25).toList.map (fun f => (f.name, f.type, f.offset)) = [("Re", 2, 0), ("Im", 2, 1)] := by kernel_rfl
  generalize (Try.prog.fieldsOf 25).toList = fs at hf
  obtain ⟨f0, f1, rfl⟩ : ∃ f0 f1, fs = [f0, f1] := by
    have h := congrArg List.length hf
    rw [List.length_map] at h
    match fs, h with
    | [b0, b1], _ => exact ⟨b0, b1, rfl⟩
  simp only [List.map_cons, List.map_nil, List.cons.injEq, Prod.mk.injEq, and_true] at hf
  obtain ⟨⟨n0, t0, o0⟩, n1, t1, o1⟩ := hf
  simp only [Op.eqFields, n0, t0, o0, n1, t1, o1]
  simp [Sem.run_bind, part25_0, part25_1, Result.andThen_ok, eq_int, Sem.run_pure]
theorem fields29s : Try.prog.underlying 29 = some (.struct (Try.prog.fieldsOf 29)) ∧ Try.prog.stoodInHeld 29 = false := ⟨by kernel_rfl, by kernel_rfl⟩
theorem part29_0 (a b c e : Int) (w : World) : (part 25 #[.int .i64 a, .int .i64 b, .int .i64 c, .int .i64 e] 0).run Try.prog w = .ok (.agg #[.int .i64 a, .int .i64 b]) w := by
  simp [part, isAgg, run_underlying Try.underlying25, size25r]
theorem part29_1 (a b c e : Int) (w : World) : (part 25 #[.int .i64 a, .int .i64 b, .int .i64 c, .int .i64 e] 2).run Try.prog w = .ok (.agg #[.int .i64 c, .int .i64 e]) w := by
  simp [part, isAgg, run_underlying Try.underlying25, size25r]
theorem self29 (d : Nat) (a b c e : Int) (w : World) : (Op.equalIn (d + 3) 29 (.agg #[.int .i64 a, .int .i64 b, .int .i64 c, .int .i64 e]) (.agg #[.int .i64 a, .int .i64 b, .int .i64 c, .int .i64 e])).run Try.prog w = .ok true w := by
  rw [run_equalIn_struct w (d + 2) 29 _ _ fields29s.1 fields29s.2]
  have hf : (Try.prog.fieldsOf 29).toList.map (fun f => (f.name, f.type, f.offset)) = [("X", 25, 0), ("Y", 25, 2)] := by kernel_rfl
  generalize (Try.prog.fieldsOf 29).toList = fs at hf
  obtain ⟨f0, f1, rfl⟩ : ∃ f0 f1, fs = [f0, f1] := by
    have h := congrArg List.length hf
    rw [List.length_map] at h
    match fs, h with
    | [b0, b1], _ => exact ⟨b0, b1, rfl⟩
  simp only [List.map_cons, List.map_nil, List.cons.injEq, Prod.mk.injEq, and_true] at hf
  obtain ⟨⟨n0, t0, o0⟩, n1, t1, o1⟩ := hf
  simp only [Op.eqFields, n0, t0, o0, n1, t1, o1]
  simp [Sem.run_bind, part29_0, part29_1, Result.andThen_ok, eq_int, self25, Sem.run_pure]
theorem fields36s : Try.prog.underlying 36 = some (.struct (Try.prog.fieldsOf 36)) ∧ Try.prog.stoodInHeld 36 = false := ⟨by kernel_rfl, by kernel_rfl⟩
theorem part36_0 (a b c e : Int) (w : World) : (part 2 #[.int .i64 a, .int .i64 b, .int .i64 c, .int .i64 e] 0).run Try.prog w = .ok (.int .i64 a) w := by
  simp [part, isAgg, run_underlying Try.underlying2]
theorem part36_1 (a b c e : Int) (w : World) : (part 2 #[.int .i64 a, .int .i64 b, .int .i64 c, .int .i64 e] 1).run Try.prog w = .ok (.int .i64 b) w := by
  simp [part, isAgg, run_underlying Try.underlying2]
theorem part36_2 (a b c e : Int) (w : World) : (part 2 #[.int .i64 a, .int .i64 b, .int .i64 c, .int .i64 e] 2).run Try.prog w = .ok (.int .i64 c) w := by
  simp [part, isAgg, run_underlying Try.underlying2]
theorem part36_3 (a b c e : Int) (w : World) : (part 2 #[.int .i64 a, .int .i64 b, .int .i64 c, .int .i64 e] 3).run Try.prog w = .ok (.int .i64 e) w := by
  simp [part, isAgg, run_underlying Try.underlying2]
theorem self36 (d : Nat) (a b c e : Int) (w : World) : (Op.equalIn (d + 2) 36 (.agg #[.int .i64 a, .int .i64 b, .int .i64 c, .int .i64 e]) (.agg #[.int .i64 a, .int .i64 b, .int .i64 c, .int .i64 e])).run Try.prog w = .ok true w := by
  rw [run_equalIn_struct w (d + 1) 36 _ _ fields36s.1 fields36s.2]
  have hf : (Try.prog.fieldsOf 36).toList.map (fun f => (f.name, f.type, f.offset)) = [("I", 2, 0), ("Q", 2, 1), ("U", 2, 2), ("V", 2, 3)] := by kernel_rfl
  generalize (Try.prog.fieldsOf 36).toList = fs at hf
  obtain ⟨f0, f1, f2, f3, rfl⟩ : ∃ f0 f1 f2 f3, fs = [f0, f1, f2, f3] := by
    have h := congrArg List.length hf
    rw [List.length_map] at h
    match fs, h with
    | [b0, b1, b2, b3], _ => exact ⟨b0, b1, b2, b3, rfl⟩
  simp only [List.map_cons, List.map_nil, List.cons.injEq, Prod.mk.injEq, and_true] at hf
  obtain ⟨⟨n0, t0, o0⟩, ⟨n1, t1, o1⟩, ⟨n2, t2, o2⟩, n3, t3, o3⟩ := hf
  simp only [Op.eqFields, n0, t0, o0, n1, t1, o1, n2, t2, o2, n3, t3, o3]
  simp [Sem.run_bind, part36_0, part36_1, part36_2, part36_3, Result.andThen_ok, eq_int, Sem.run_pure]
theorem fields33s : Try.prog.underlying 33 = some (.struct (Try.prog.fieldsOf 33)) ∧ Try.prog.stoodInHeld 33 = false := ⟨by kernel_rfl, by kernel_rfl⟩
theorem part33_0 (k a b c e : Int) (w : World) : (part 2 #[.int .i64 k, .int .i64 a, .int .i64 b, .int .i64 c, .int .i64 e] 0).run Try.prog w = .ok (.int .i64 k) w := by
  simp [part, isAgg, run_underlying Try.underlying2]
theorem part33_1 (k a b c e : Int) (w : World) : (part 29 #[.int .i64 k, .int .i64 a, .int .i64 b, .int .i64 c, .int .i64 e] 1).run Try.prog w = .ok (.agg #[.int .i64 a, .int .i64 b, .int .i64 c, .int .i64 e]) w := by
  simp [part, isAgg, run_underlying Try.underlying29, size29r]
theorem self33 (d : Nat) (k a b c e : Int) (w : World) : (Op.equalIn (d + 4) 33 (.agg #[.int .i64 k, .int .i64 a, .int .i64 b, .int .i64 c, .int .i64 e]) (.agg #[.int .i64 k, .int .i64 a, .int .i64 b, .int .i64 c, .int .i64 e])).run Try.prog w = .ok true w := by
  rw [run_equalIn_struct w (d + 3) 33 _ _ fields33s.1 fields33s.2]
  have hf : (Try.prog.fieldsOf 33).toList.map (fun f => (f.name, f.type, f.offset)) = [("Code", 2, 0), ("Jones", 29, 1)] := by kernel_rfl
  generalize (Try.prog.fieldsOf 33).toList = fs at hf
  obtain ⟨f0, f1, rfl⟩ : ∃ f0 f1, fs = [f0, f1] := by
    have h := congrArg List.length hf
    rw [List.length_map] at h
    match fs, h with
    | [b0, b1], _ => exact ⟨b0, b1, rfl⟩
  simp only [List.map_cons, List.map_nil, List.cons.injEq, Prod.mk.injEq, and_true] at hf
  obtain ⟨⟨n0, t0, o0⟩, n1, t1, o1⟩ := hf
  simp only [Op.eqFields, n0, t0, o0, n1, t1, o1]
  simp [Sem.run_bind, part33_0, part33_1, Result.andThen_ok, eq_int, self29, Sem.run_pure]
theorem fields38s : Try.prog.underlying 38 = some (.struct (Try.prog.fieldsOf 38)) ∧ Try.prog.stoodInHeld 38 = false := ⟨by kernel_rfl, by kernel_rfl⟩
theorem part38_0 (k a b c e : Int) (w : World) : (part 2 #[.int .i64 k, .int .i64 a, .int .i64 b, .int .i64 c, .int .i64 e] 0).run Try.prog w = .ok (.int .i64 k) w := by
  simp [part, isAgg, run_underlying Try.underlying2]
theorem part38_1 (k a b c e : Int) (w : World) : (part 36 #[.int .i64 k, .int .i64 a, .int .i64 b, .int .i64 c, .int .i64 e] 1).run Try.prog w = .ok (.agg #[.int .i64 a, .int .i64 b, .int .i64 c, .int .i64 e]) w := by
  simp [part, isAgg, run_underlying Try.underlying36, size36r]
theorem self38 (d : Nat) (k a b c e : Int) (w : World) : (Op.equalIn (d + 3) 38 (.agg #[.int .i64 k, .int .i64 a, .int .i64 b, .int .i64 c, .int .i64 e]) (.agg #[.int .i64 k, .int .i64 a, .int .i64 b, .int .i64 c, .int .i64 e])).run Try.prog w = .ok true w := by
  rw [run_equalIn_struct w (d + 2) 38 _ _ fields38s.1 fields38s.2]
  have hf : (Try.prog.fieldsOf 38).toList.map (fun f => (f.name, f.type, f.offset)) = [("Code", 2, 0), ("Stokes", 36, 1)] := by kernel_rfl
  generalize (Try.prog.fieldsOf 38).toList = fs at hf
  obtain ⟨f0, f1, rfl⟩ : ∃ f0 f1, fs = [f0, f1] := by
    have h := congrArg List.length hf
    rw [List.length_map] at h
    match fs, h with
    | [b0, b1], _ => exact ⟨b0, b1, rfl⟩
  simp only [List.map_cons, List.map_nil, List.cons.injEq, Prod.mk.injEq, and_true] at hf
  obtain ⟨⟨n0, t0, o0⟩, n1, t1, o1⟩ := hf
  simp only [Op.eqFields, n0, t0, o0, n1, t1, o1]
  simp [Sem.run_bind, part38_0, part38_1, Result.andThen_ok, eq_int, self36, Sem.run_pure]
theorem neq29_same (a b c e : Int) (w : World) : (binOp .neq 29 (.agg #[.int .i64 a, .int .i64 b, .int .i64 c, .int .i64 e]) (.agg #[.int .i64 a, .int .i64 b, .int .i64 c, .int .i64 e])).run Try.prog w = .ok (.bool false) w := by
  have h : (Op.equal 29 (.agg #[.int .i64 a, .int .i64 b, .int .i64 c, .int .i64 e]) (.agg #[.int .i64 a, .int .i64 b, .int .i64 c, .int .i64 e])).run Try.prog w = .ok true w := self29 9997 a b c e w
  simp [binOp, go_sem, h]
theorem eql29_same (a b c e : Int) (w : World) : (binOp .eql 29 (.agg #[.int .i64 a, .int .i64 b, .int .i64 c, .int .i64 e]) (.agg #[.int .i64 a, .int .i64 b, .int .i64 c, .int .i64 e])).run Try.prog w = .ok (.bool true) w := by
  have h : (Op.equal 29 (.agg #[.int .i64 a, .int .i64 b, .int .i64 c, .int .i64 e]) (.agg #[.int .i64 a, .int .i64 b, .int .i64 c, .int .i64 e])).run Try.prog w = .ok true w := self29 9997 a b c e w
  simp [binOp, go_sem, h]
theorem neq33_same (k a b c e : Int) (w : World) : (binOp .neq 33 (.agg #[.int .i64 k, .int .i64 a, .int .i64 b, .int .i64 c, .int .i64 e]) (.agg #[.int .i64 k, .int .i64 a, .int .i64 b, .int .i64 c, .int .i64 e])).run Try.prog w = .ok (.bool false) w := by
  have h : (Op.equal 33 (.agg #[.int .i64 k, .int .i64 a, .int .i64 b, .int .i64 c, .int .i64 e]) (.agg #[.int .i64 k, .int .i64 a, .int .i64 b, .int .i64 c, .int .i64 e])).run Try.prog w = .ok true w := self33 9996 k a b c e w
  simp [binOp, go_sem, h]
theorem eql33_same (k a b c e : Int) (w : World) : (binOp .eql 33 (.agg #[.int .i64 k, .int .i64 a, .int .i64 b, .int .i64 c, .int .i64 e]) (.agg #[.int .i64 k, .int .i64 a, .int .i64 b, .int .i64 c, .int .i64 e])).run Try.prog w = .ok (.bool true) w := by
  have h : (Op.equal 33 (.agg #[.int .i64 k, .int .i64 a, .int .i64 b, .int .i64 c, .int .i64 e]) (.agg #[.int .i64 k, .int .i64 a, .int .i64 b, .int .i64 c, .int .i64 e])).run Try.prog w = .ok true w := self33 9996 k a b c e w
  simp [binOp, go_sem, h]
theorem neq38_same (k a b c e : Int) (w : World) : (binOp .neq 38 (.agg #[.int .i64 k, .int .i64 a, .int .i64 b, .int .i64 c, .int .i64 e]) (.agg #[.int .i64 k, .int .i64 a, .int .i64 b, .int .i64 c, .int .i64 e])).run Try.prog w = .ok (.bool false) w := by
  have h : (Op.equal 38 (.agg #[.int .i64 k, .int .i64 a, .int .i64 b, .int .i64 c, .int .i64 e]) (.agg #[.int .i64 k, .int .i64 a, .int .i64 b, .int .i64 c, .int .i64 e])).run Try.prog w = .ok true w := self38 9997 k a b c e w
  simp [binOp, go_sem, h]
theorem eql38_same (k a b c e : Int) (w : World) : (binOp .eql 38 (.agg #[.int .i64 k, .int .i64 a, .int .i64 b, .int .i64 c, .int .i64 e]) (.agg #[.int .i64 k, .int .i64 a, .int .i64 b, .int .i64 c, .int .i64 e])).run Try.prog w = .ok (.bool true) w := by
  have h : (Op.equal 38 (.agg #[.int .i64 k, .int .i64 a, .int .i64 b, .int .i64 c, .int .i64 e]) (.agg #[.int .i64 k, .int .i64 a, .int .i64 b, .int .i64 c, .int .i64 e])).run Try.prog w = .ok true w := self38 9997 k a b c e w
  simp [binOp, go_sem, h]
end Go.Proofs.Ytloebnlmeplgbaa
