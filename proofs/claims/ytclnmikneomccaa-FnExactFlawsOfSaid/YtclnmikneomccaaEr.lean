/- Rectangles compared by the language. -/
import Derived.Test.YtclnmikneomccaaLr
import Derived.Laws.StructEq
namespace Go.Proofs.Ytclnmikneomccaa
open Go.RowKit
set_option linter.unusedVariables false
set_option linter.unusedSimpArgs false
theorem eq_int (d : Nat) (a b : Int) (w : World) : (Op.equalIn (d + 1) 2 (.int .i64 a) (.int .i64 b)).run Try.prog w = .ok (a == b) w := by
  simp [Op.equalIn, run_underlying Try.underlying2]
theorem fields68t : Try.prog.underlying 68 = some (.struct (Try.prog.fieldsOf 68)) ∧ Try.prog.stoodInHeld 68 = false := ⟨by kernel_rfl, by kernel_rfl⟩
theorem part68_0 (x : R.G) (w : World) : (part 2 #[.int .i64 x.ly, .int .i64 x.xa, .int .i64 x.ya, .int .i64 x.xb, .int .i64 x.yb] 0).run Try.prog w = .ok (.int .i64 x.ly) w := by
  simp [part, isAgg, run_underlying Try.underlying2]
theorem part68_1 (x : R.G) (w : World) : (part 2 #[.int .i64 x.ly, .int .i64 x.xa, .int .i64 x.ya, .int .i64 x.xb, .int .i64 x.yb] 1).run Try.prog w = .ok (.int .i64 x.xa) w := by
  simp [part, isAgg, run_underlying Try.underlying2]
theorem part68_2 (x : R.G) (w : World) : (part 2 #[.int .i64 x.ly, .int .i64 x.xa, .int .i64 x.ya, .int .i64 x.xb, .int .i64 x.yb] 2).run Try.prog w = .ok (.int .i64 x.ya) w := by
  simp [part, isAgg, run_underlying Try.underlying2]
theorem part68_3 (x : R.G) (w : World) : (part 2 #[.int .i64 x.ly, .int .i64 x.xa, .int .i64 x.ya, .int .i64 x.xb, .int .i64 x.yb] 3).run Try.prog w = .ok (.int .i64 x.xb) w := by
  simp [part, isAgg, run_underlying Try.underlying2]
theorem part68_4 (x : R.G) (w : World) : (part 2 #[.int .i64 x.ly, .int .i64 x.xa, .int .i64 x.ya, .int .i64 x.xb, .int .i64 x.yb] 4).run Try.prog w = .ok (.int .i64 x.yb) w := by
  simp [part, isAgg, run_underlying Try.underlying2]
theorem eq68 (d : Nat) (x y : R.G) (w : World) : (Op.equalIn (d + 2) 68 (.agg #[.int .i64 x.ly, .int .i64 x.xa, .int .i64 x.ya, .int .i64 x.xb, .int .i64 x.yb]) (.agg #[.int .i64 y.ly, .int .i64 y.xa, .int .i64 y.ya, .int .i64 y.xb, .int .i64 y.yb])).run Try.prog w = .ok ((x.ly == y.ly) && ((x.xa == y.xa) && ((x.ya == y.ya) && ((x.xb == y.xb) && (x.yb == y.yb))))) w := by
  rw [run_equalIn_struct w (d + 1) 68 _ _ fields68t.1 fields68t.2]
  have hf : (Try.prog.fieldsOf 68).toList.map (fun f => (f.name, f.type, f.offset)) = [("Layer", 2, 0), ("X0", 2, 1), ("Y0", 2, 2), ("X1", 2, 3), ("Y1", 2, 4)] := by kernel_rfl
  generalize (Try.prog.fieldsOf 68).toList = fs at hf
  obtain ⟨f0, f1, f2, f3, f4, rfl⟩ : ∃ f0 f1 f2 f3 f4, fs = [f0, f1, f2, f3, f4] := by
    have h := congrArg List.length hf
    rw [List.length_map] at h
    match fs, h with
    | [b0, b1, b2, b3, b4], _ => exact ⟨b0, b1, b2, b3, b4, rfl⟩
  simp only [List.map_cons, List.map_nil, List.cons.injEq, Prod.mk.injEq, and_true] at hf
  obtain ⟨⟨n0, t0, o0⟩, ⟨n1, t1, o1⟩, ⟨n2, t2, o2⟩, ⟨n3, t3, o3⟩, n4, t4, o4⟩ := hf
  simp only [Op.eqFields, n0, t0, o0, n1, t1, o1, n2, t2, o2, n3, t3, o3, n4, t4, o4]
  cases h0 : (x.ly == y.ly) with
  | false => simp [Sem.run_bind, part68_0, part68_1, part68_2, part68_3, part68_4, Result.andThen_ok, eq_int, Sem.run_pure, h0]
  | true =>
    cases h1 : (x.xa == y.xa) with
    | false => simp [Sem.run_bind, part68_0, part68_1, part68_2, part68_3, part68_4, Result.andThen_ok, eq_int, Sem.run_pure, h0, h1]
    | true =>
      cases h2 : (x.ya == y.ya) with
      | false => simp [Sem.run_bind, part68_0, part68_1, part68_2, part68_3, part68_4, Result.andThen_ok, eq_int, Sem.run_pure, h0, h1, h2]
      | true =>
        cases h3 : (x.xb == y.xb) with
        | false => simp [Sem.run_bind, part68_0, part68_1, part68_2, part68_3, part68_4, Result.andThen_ok, eq_int, Sem.run_pure, h0, h1, h2, h3]
        | true =>
          cases h4 : (x.yb == y.yb) with
          | false => simp [Sem.run_bind, part68_0, part68_1, part68_2, part68_3, part68_4, Result.andThen_ok, eq_int, Sem.run_pure, h0, h1, h2, h3, h4]
          | true =>
            simp [Sem.run_bind, part68_0, part68_1, part68_2, part68_3, part68_4, Result.andThen_ok, eq_int, Sem.run_pure, h0, h1, h2, h3, h4]
theorem neq68 (x y : R.G) (t : Bool) (ht : t = true ↔ x ≠ y) (w : World) : (binOp .neq 68 (.agg #[.int .i64 x.ly, .int .i64 x.xa, .int .i64 x.ya, .int .i64 x.xb, .int .i64 x.yb]) (.agg #[.int .i64 y.ly, .int .i64 y.xa, .int .i64 y.ya, .int .i64 y.xb, .int .i64 y.yb])).run Try.prog w = .ok (.bool t) w := by
  have h : (Op.equal 68 (.agg #[.int .i64 x.ly, .int .i64 x.xa, .int .i64 x.ya, .int .i64 x.xb, .int .i64 x.yb]) (.agg #[.int .i64 y.ly, .int .i64 y.xa, .int .i64 y.ya, .int .i64 y.xb, .int .i64 y.yb])).run Try.prog w = .ok ((x.ly == y.ly) && ((x.xa == y.xa) && ((x.ya == y.ya) && ((x.xb == y.xb) && (x.yb == y.yb))))) w := eq68 9998 x y w
  have e : t = !((x.ly == y.ly) && ((x.xa == y.xa) && ((x.ya == y.ya) && ((x.xb == y.xb) && (x.yb == y.yb))))) := by
    have key : ((x.ly == y.ly) && ((x.xa == y.xa) && ((x.ya == y.ya) && ((x.xb == y.xb) && (x.yb == y.yb))))) = true ↔ x = y := by
      constructor
      · intro h
        simp only [Bool.and_eq_true, beq_iff_eq] at h
        obtain ⟨h1, h2, h3, h4, h5⟩ := h
        cases x; cases y
        simp_all
      · rintro rfl; simp
    generalize ((x.ly == y.ly) && ((x.xa == y.xa) && ((x.ya == y.ya) && ((x.xb == y.xb) && (x.yb == y.yb))))) = B at key
    cases t <;> cases B <;> simp_all
  simp [binOp, go_sem, h, e]
end Go.Proofs.Ytclnmikneomccaa
