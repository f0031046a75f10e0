/- How lights, plates and four numbers that came in are opened. -/
import Derived.Test.YtloebnlmeplgbaaArgrow
import Derived.Test.YtloebnlmeplgbaaBs
import Derived.ShutString
namespace Go.Proofs.Ytloebnlmeplgbaa
open Go.ChangeShapes Go.WideShapes Go.ChangeAt Go.RowKit Go.Joins
set_option linter.unusedVariables false
theorem cells47 : Try.prog.cellsOf 47 = 2 := by kernel_rfl
theorem cells49 : Try.prog.cellsOf 49 = 4 := by kernel_rfl
theorem cells54 : Try.prog.cellsOf 54 = 8 := by kernel_rfl
theorem cells75 : Try.prog.cellsOf 75 = 4 := by kernel_rfl
set_option maxRecDepth 100000 in
theorem trod_g {H : Type} {enc : TypeId × Value → H} {W : World} {base : Nat} {spare : Nat → Bool} {held : Bool} {fuel : Nat} {c0 c1 : Value} {x : DataW H × List MemPlace}
    (h : DataW.trod enc Try.prog W base spare held fuel 47 [c0, c1] = some x) : ∃ q : Gz, c0 = .int .i64 q.re ∧ c1 = .int .i64 q.im := by
  obtain ⟨y0, y1, n, _, _, h0, h1⟩ := trod_struct2 Try.underlying47 h
  simp [cells2] at h0 h1
  obtain ⟨a, e0, _, wa⟩ := DataW.trod_int Try.underlying2 h0
  obtain ⟨b, e1, _, wb⟩ := DataW.trod_int Try.underlying2 h1
  simp at e0 e1
  exact ⟨⟨a, b⟩, e0, e1⟩
theorem array8 {c : Array Value} (h : c.size = 8) : ∃ c0 c1 c2 c3 c4 c5 c6 c7, c = #[c0, c1, c2, c3, c4, c5, c6, c7] := by
  obtain ⟨l⟩ := c
  match l, h with
  | [c0, c1, c2, c3, c4, c5, c6, c7], _ => exact ⟨c0, c1, c2, c3, c4, c5, c6, c7, rfl⟩
theorem array4 {c : Array Value} (h : c.size = 4) : ∃ c0 c1 c2 c3, c = #[c0, c1, c2, c3] := by
  obtain ⟨l⟩ := c
  match l, h with
  | [c0, c1, c2, c3], _ => exact ⟨c0, c1, c2, c3, rfl⟩
set_option maxRecDepth 100000 in
theorem trod_pl {H : Type} {enc : TypeId × Value → H} {W : World} {base : Nat} {spare : Nat → Bool} {held : Bool} {fuel : Nat} {c0 c1 c2 c3 c4 c5 c6 c7 : Value} {x : DataW H × List MemPlace}
    (hf : DataW.trod enc Try.prog W base spare held fuel 54 [c0, c1, c2, c3, c4, c5, c6, c7] = some x) : ∃ m : Pl, c0 = .int .i64 m.a.re ∧ c1 = .int .i64 m.a.im ∧ c2 = .int .i64 m.b.re ∧ c3 = .int .i64 m.b.im ∧ c4 = .int .i64 m.c.re ∧ c5 = .int .i64 m.c.im ∧ c6 = .int .i64 m.d.re ∧ c7 = .int .i64 m.d.im := by
  obtain ⟨y0, y1, y2, y3, n, _, _, h0, h1, h2, h3⟩ := trod_struct4 Try.underlying54 hf
  simp [cells47] at h0 h1 h2 h3
  obtain ⟨a, rfl, rfl⟩ := trod_g h0
  obtain ⟨b, rfl, rfl⟩ := trod_g h1
  obtain ⟨c, rfl, rfl⟩ := trod_g h2
  obtain ⟨e, rfl, rfl⟩ := trod_g h3
  exact ⟨⟨a, b, c, e⟩, rfl, rfl, rfl, rfl, rfl, rfl, rfl, rfl⟩
set_option maxRecDepth 100000 in
theorem open_plate {H : Type} {enc : TypeId × Value → H} {W : World} {base : Nat} {v : Value} {d : DataW H} {p : List MemPlace} (hv : Value.okWide Try.prog W .any base 54 v)
    (h : DataW.Trod enc Try.prog W 0 (fun _ => true) true 54 v d p) : ∃ m : Pl, v = .agg #[.int .i64 m.a.re, .int .i64 m.a.im, .int .i64 m.b.re, .int .i64 m.b.im, .int .i64 m.c.re, .int .i64 m.c.im, .int .i64 m.d.re, .int .i64 m.d.im] := by
  obtain ⟨cs, rfl, hsz⟩ := okWide_struct Try.underlying54 hv
  obtain ⟨c0, c1, c2, c3, c4, c5, c6, c7, rfl⟩ := array8 (hsz.trans cells54)
  obtain ⟨fuel, hf⟩ := h
  have hf' : DataW.trod enc Try.prog W 0 (fun _ => true) true fuel 54 [c0, c1, c2, c3, c4, c5, c6, c7] = some (d, p) := by simpa [Value.cells] using hf
  obtain ⟨m, rfl, rfl, rfl, rfl, rfl, rfl, rfl, rfl⟩ := trod_pl hf'
  exact ⟨m, rfl⟩
set_option maxRecDepth 100000 in
theorem open_jones {H : Type} {enc : TypeId × Value → H} {W : World} {base : Nat} {v : Value} {d : DataW H} {p : List MemPlace} (hv : Value.okWide Try.prog W .any base 49 v)
    (h : DataW.Trod enc Try.prog W 0 (fun _ => true) true 49 v d p) : ∃ r : Jn, v = .agg #[.int .i64 r.x.re, .int .i64 r.x.im, .int .i64 r.y.re, .int .i64 r.y.im] := by
  obtain ⟨cs, rfl, hsz⟩ := okWide_struct Try.underlying49 hv
  obtain ⟨c0, c1, c2, c3, rfl⟩ := array4 (hsz.trans cells49)
  obtain ⟨fuel, hf⟩ := h
  have hf' : DataW.trod enc Try.prog W 0 (fun _ => true) true fuel 49 [c0, c1, c2, c3] = some (d, p) := by simpa [Value.cells] using hf
  obtain ⟨y0, y1, n, _, _, h0, h1⟩ := trod_struct2 Try.underlying49 hf'
  simp [cells47] at h0 h1
  obtain ⟨a, rfl, rfl⟩ := trod_g h0
  obtain ⟨b, rfl, rfl⟩ := trod_g h1
  exact ⟨⟨a, b⟩, rfl⟩
theorem wf64 {n : Int} (h : (Lit.int .i64 n).wf = true) : -9223372036854775808 ≤ n ∧ n ≤ 9223372036854775807 := ⟨i64_lo h, i64_hi h⟩
set_option maxRecDepth 100000 in
theorem trod_sk {H : Type} {enc : TypeId × Value → H} {W : World} {base : Nat} {spare : Nat → Bool} {held : Bool} {fuel : Nat} {c0 c1 c2 c3 : Value} {x : DataW H × List MemPlace}
    (hf : DataW.trod enc Try.prog W base spare held fuel 75 [c0, c1, c2, c3] = some x) : ∃ m : Sk, c0 = .int .i64 m.i ∧ c1 = .int .i64 m.q ∧ c2 = .int .i64 m.u ∧ c3 = .int .i64 m.v := by
  obtain ⟨y0, y1, y2, y3, n, _, _, h0, h1, h2, h3⟩ := trod_struct4 Try.underlying75 hf
  simp [cells2] at h0 h1 h2 h3
  obtain ⟨a, e0, _, _⟩ := DataW.trod_int Try.underlying2 h0
  obtain ⟨b, e1, _, _⟩ := DataW.trod_int Try.underlying2 h1
  obtain ⟨c, e2, _, _⟩ := DataW.trod_int Try.underlying2 h2
  obtain ⟨e, e3, _, _⟩ := DataW.trod_int Try.underlying2 h3
  simp at e0 e1 e2 e3
  exact ⟨⟨a, b, c, e⟩, e0, e1, e2, e3⟩
set_option maxRecDepth 100000 in
theorem open_stokes {H : Type} {enc : TypeId × Value → H} {W : World} {base : Nat} {v : Value} {d : DataW H} {p : List MemPlace} (hv : Value.okWide Try.prog W .any base 75 v)
    (h : DataW.Trod enc Try.prog W 0 (fun _ => true) true 75 v d p) : ∃ m : Sk, v = .agg #[.int .i64 m.i, .int .i64 m.q, .int .i64 m.u, .int .i64 m.v] := by
  obtain ⟨cs, rfl, hsz⟩ := okWide_struct Try.underlying75 hv
  obtain ⟨c0, c1, c2, c3, rfl⟩ := array4 (hsz.trans cells75)
  obtain ⟨fuel, hf⟩ := h
  have hf' : DataW.trod enc Try.prog W 0 (fun _ => true) true fuel 75 [c0, c1, c2, c3] = some (d, p) := by simpa [Value.cells] using hf
  obtain ⟨m, rfl, rfl, rfl, rfl⟩ := trod_sk hf'
  exact ⟨m, rfl⟩
end Go.Proofs.Ytloebnlmeplgbaa
