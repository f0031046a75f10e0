/- How systems, rays and parts that came in are opened. -/
import Derived.Test.YtnikgmjjkdhjbaaTl
namespace Go.Proofs.Ytnikgmjjkdhjbaa
open Go.ChangeShapes Go.WideShapes Go.ChangeAt Go.RowKit Go.Joins
set_option linter.unusedVariables false
theorem cells40 : Try.prog.cellsOf 40 = 2 := by kernel_rfl
theorem cells2 : Try.prog.cellsOf 2 = 1 := by kernel_rfl
theorem cells53 : Try.prog.cellsOf 53 = 8 := by kernel_rfl
theorem cells64 : Try.prog.cellsOf 64 = 4 := by kernel_rfl
theorem cells42 : Try.prog.cellsOf 42 = 3 := by kernel_rfl
set_option maxRecDepth 100000 in
theorem trod_q {H : Type} {enc : TypeId × Value → H} {W : World} {base : Nat} {spare : Nat → Bool} {held : Bool} {fuel : Nat} {c0 c1 : Value} {x : DataW H × List MemPlace}
    (h : DataW.trod enc Try.prog W base spare held fuel 40 [c0, c1] = some x) : ∃ q : Q, c0 = .int .i64 q.n ∧ c1 = .int .i64 q.d := by
  obtain ⟨y0, y1, n, _, _, h0, h1⟩ := trod_struct2 Try.underlying40 h
  simp [cells2] at h0 h1
  obtain ⟨a, e0, _, wa⟩ := DataW.trod_int Try.underlying2 h0
  obtain ⟨b, e1, _, wb⟩ := DataW.trod_int Try.underlying2 h1
  simp at e0 e1
  exact ⟨⟨a, b⟩, e0, e1⟩
theorem array8 {c : Array Value} (h : c.size = 8) : ∃ c0 c1 c2 c3 c4 c5 c6 c7, c = #[c0, c1, c2, c3, c4, c5, c6, c7] := by
  obtain ⟨l⟩ := c
  match l, h with
  | [c0, c1, c2, c3, c4, c5, c6, c7], _ => exact ⟨c0, c1, c2, c3, c4, c5, c6, c7, rfl⟩
theorem array4 {c : Array Value} (h : c.size = 4) : ∃ c0 c1 c2 c3, c = #[c0, c1, c2, c3] := by
  obtain ⟨l⟩ := c
  match l, h with
  | [c0, c1, c2, c3], _ => exact ⟨c0, c1, c2, c3, rfl⟩
theorem array3 {c : Array Value} (h : c.size = 3) : ∃ c0 c1 c2, c = #[c0, c1, c2] := by
  obtain ⟨l⟩ := c
  match l, h with
  | [c0, c1, c2], _ => exact ⟨c0, c1, c2, rfl⟩
set_option maxRecDepth 100000 in
theorem open_mat {H : Type} {enc : TypeId × Value → H} {W : World} {base : Nat} {v : Value} {d : DataW H} {p : List MemPlace} (hv : Value.okWide Try.prog W .any base 53 v)
    (h : DataW.Trod enc Try.prog W 0 (fun _ => true) true 53 v d p) : ∃ m : Mx, v = .agg #[.int .i64 m.A.n, .int .i64 m.A.d, .int .i64 m.B.n, .int .i64 m.B.d, .int .i64 m.C.n, .int .i64 m.C.d, .int .i64 m.D.n, .int .i64 m.D.d] := by
  obtain ⟨cs, rfl, hsz⟩ := okWide_struct Try.underlying53 hv
  obtain ⟨c0, c1, c2, c3, c4, c5, c6, c7, rfl⟩ := array8 (hsz.trans cells53)
  obtain ⟨fuel, hf⟩ := h
  have hf' : DataW.trod enc Try.prog W 0 (fun _ => true) true fuel 53 [c0, c1, c2, c3, c4, c5, c6, c7] = some (d, p) := by simpa [Value.cells] using hf
  obtain ⟨y0, y1, y2, y3, n, _, _, h0, h1, h2, h3⟩ := trod_struct4 Try.underlying53 hf'
  simp [cells40] at h0 h1 h2 h3
  obtain ⟨a, rfl, rfl⟩ := trod_q h0
  obtain ⟨b, rfl, rfl⟩ := trod_q h1
  obtain ⟨c, rfl, rfl⟩ := trod_q h2
  obtain ⟨e, rfl, rfl⟩ := trod_q h3
  exact ⟨⟨a, b, c, e⟩, rfl⟩
set_option maxRecDepth 100000 in
theorem open_ray {H : Type} {enc : TypeId × Value → H} {W : World} {base : Nat} {v : Value} {d : DataW H} {p : List MemPlace} (hv : Value.okWide Try.prog W .any base 64 v)
    (h : DataW.Trod enc Try.prog W 0 (fun _ => true) true 64 v d p) : ∃ r : Ry, v = .agg #[.int .i64 r.Y.n, .int .i64 r.Y.d, .int .i64 r.U.n, .int .i64 r.U.d] := by
  obtain ⟨cs, rfl, hsz⟩ := okWide_struct Try.underlying64 hv
  obtain ⟨c0, c1, c2, c3, rfl⟩ := array4 (hsz.trans cells64)
  obtain ⟨fuel, hf⟩ := h
  have hf' : DataW.trod enc Try.prog W 0 (fun _ => true) true fuel 64 [c0, c1, c2, c3] = some (d, p) := by simpa [Value.cells] using hf
  obtain ⟨y0, y1, n, _, _, h0, h1⟩ := trod_struct2 Try.underlying64 hf'
  simp [cells40] at h0 h1
  obtain ⟨a, rfl, rfl⟩ := trod_q h0
  obtain ⟨b, rfl, rfl⟩ := trod_q h1
  exact ⟨⟨a, b⟩, rfl⟩
set_option maxRecDepth 100000 in
theorem trod_p {H : Type} {enc : TypeId × Value → H} {W : World} {base : Nat} {spare : Nat → Bool} {held : Bool} {fuel : Nat} {c0 c1 c2 : Value} {x : DataW H × List MemPlace}
    (h : DataW.trod enc Try.prog W base spare held fuel 42 [c0, c1, c2] = some x) : ∃ (k : Int) (q : Q), c0 = .int .i64 k ∧ c1 = .int .i64 q.n ∧ c2 = .int .i64 q.d := by
  obtain ⟨y0, y1, n, _, _, h0, h1⟩ := trod_struct2 Try.underlying42 h
  simp [cells40, cells2] at h0 h1
  obtain ⟨a, e0, _, wa⟩ := DataW.trod_int Try.underlying2 h0
  obtain ⟨b, rfl, rfl⟩ := trod_q h1
  simp at e0
  exact ⟨a, b, e0, rfl, rfl⟩
set_option maxRecDepth 100000 in
theorem open_part {H : Type} {enc : TypeId × Value → H} {W : World} {base : Nat} {v : Value} {d : DataW H} {p : List MemPlace} (hv : Value.okWide Try.prog W .any base 42 v)
    (h : DataW.Trod enc Try.prog W 0 (fun _ => true) true 42 v d p) : ∃ (k : Int) (q : Q), v = .agg #[.int .i64 k, .int .i64 q.n, .int .i64 q.d] := by
  obtain ⟨cs, rfl, hsz⟩ := okWide_struct Try.underlying42 hv
  obtain ⟨c0, c1, c2, rfl⟩ := array3 (hsz.trans cells42)
  obtain ⟨fuel, hf⟩ := h
  have hf' : DataW.trod enc Try.prog W 0 (fun _ => true) true fuel 42 [c0, c1, c2] = some (d, p) := by simpa [Value.cells] using hf
  obtain ⟨k, q, rfl, rfl, rfl⟩ := trod_p hf'
  exact ⟨k, q, rfl⟩
end Go.Proofs.Ytnikgmjjkdhjbaa
