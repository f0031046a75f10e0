/- How a need and a list of hops that come in are opened. -/
import Derived.Test.YtfpklfpcencimaaOn
import Derived.Test.YtfpklfpcencimaaHp
namespace Go.Proofs.Ytfpklfpcencimaa
open Go.ChangeShapes Go.WideShapes Go.ChangeAt Go.RowKit Go.Joins Go.Deep
set_option linter.unusedVariables false
set_option linter.unusedSimpArgs false
theorem cellsH : Try.prog.cellsOf 76 = 3 := by kernel_rfl
theorem cells40 : Try.prog.cellsOf 40 = 5 := by kernel_rfl
theorem cells41 : Try.prog.cellsOf 41 = 1 := by kernel_rfl
theorem array5 {cs : Array Value} (h : cs.size = 5) : ∃ c0 c1 c2 c3 c4, cs = #[c0, c1, c2, c3, c4] := by
  match cs, h with
  | ⟨[c0, c1, c2, c3, c4]⟩, _ => exact ⟨c0, c1, c2, c3, c4, rfl⟩
set_option maxRecDepth 100000 in
theorem trod_hp {H : Type} {enc : TypeId × Value → H} {W : World} {base : Nat} {spare : Nat → Bool} {held : Bool} {fuel : Nat} {c0 c1 c2 : Value} {x : DataW H × List MemPlace}
    (hf : DataW.trod enc Try.prog W base spare held fuel 76 [c0, c1, c2] = some x) : ∃ g : Fb, c0 = .int .i64 g.a ∧ c1 = .int .i64 g.b ∧ c2 = .int .i64 g.km := by
  obtain ⟨xs, m, _, _, _, hlen, hx⟩ := DataW.trod_struct Try.underlying76 hf
  have hl : xs.length = 3 := hlen
  have g0 := hx 0 _ rfl
  have g1 := hx 1 _ rfl
  have g2 := hx 2 _ rfl
  rw [List.getElem?_eq_getElem (by omega)] at g0 g1 g2
  change DataW.trod enc Try.prog W base spare held m 2 (([c0, c1, c2].drop 0).take (Try.prog.cellsOf 2)) = _ at g0
  change DataW.trod enc Try.prog W base spare held m 2 (([c0, c1, c2].drop 1).take (Try.prog.cellsOf 2)) = _ at g1
  change DataW.trod enc Try.prog W base spare held m 2 (([c0, c1, c2].drop 2).take (Try.prog.cellsOf 2)) = _ at g2
  rw [cells2] at g0 g1 g2
  obtain ⟨a, e0, _, _⟩ := DataW.trod_int Try.underlying2 g0
  obtain ⟨b, e1, _, _⟩ := DataW.trod_int Try.underlying2 g1
  obtain ⟨c, e2, _, _⟩ := DataW.trod_int Try.underlying2 g2
  simp at e0 e1 e2
  exact ⟨⟨a, b, c⟩, e0, e1, e2⟩
set_option maxRecDepth 100000 in
theorem trod_hps {H : Type} {enc : TypeId × Value → H} {W : World} {base : Nat} {spare : Nat → Bool} {held : Bool} {fuel : Nat} {c : Value} {x : DataW H × List MemPlace}
    (hf : DataW.trod enc Try.prog W base spare held fuel 41 [c] = some x) : ∃ (n : Nat) (G : Nat → Fb), Rf W c n G ∧ n ≤ 9223372036854775807 := by
  rcases DataW.trod_slice Try.underlying41 hf with ⟨hcs0, _⟩ | ⟨a, len, cap, elems, rest, n, _, hcs0, _, _, hl, hm, hlen, hel, _, _⟩
  · simp at hcs0
    subst hcs0
    exact ⟨0, fun _ => zf, Or.inl ⟨_, _, rfl, rfl⟩, by omega⟩
  simp at hcs0
  subst hcs0
  unfold maxLen at hm
  by_cases h0 : len = 0
  · subst h0
    exact ⟨0, fun _ => zf, Or.inl ⟨_, _, rfl, rfl⟩, by omega⟩
  obtain ⟨G, h1, h2⟩ := rdv_of (W := W) (a := a) (len := len) (cap := cap) (m := 3) (by omega) (by omega) zf fcell (fun _ => True) (by
    intro i hi
    have h1 := hel i hi
    rw [cellsH] at h1
    obtain ⟨y, hy⟩ : ∃ y, elems[i]? = some y := ⟨elems[i]'(by omega), List.getElem?_eq_getElem (by omega)⟩
    rw [hy, Option.bind_eq_some_iff] at h1
    obtain ⟨cs', hcs, hy'⟩ := h1
    obtain ⟨_, hcl, hce⟩ := World.cells?_some hcs
    match cs', hcl with
    | [c0, c1, c2], _ =>
      obtain ⟨g, e0, e1, e2⟩ := trod_hp hy'
      refine ⟨g, trivial, fun j hj => ?_⟩
      have e := hce j hj
      rw [e0, e1, e2] at e
      match j, hj with
      | 0, _ => exact e
      | 1, _ => exact e
      | 2, _ => exact e)
  exact ⟨len, G, h1, by omega⟩
set_option maxRecDepth 100000 in
theorem open_need {H : Type} {enc : TypeId × Value → H} {W : World} {base : Nat} {v : Value} {d : DataW H} {p : List MemPlace} (hv : Value.okWide Try.prog W .any base 40 v)
    (h : DataW.Trod enc Try.prog W 0 (fun _ => true) true 40 v d p) : ∃ (a0 a1 a2 a3 a4 : Int), v = .agg #[.int .i64 a0, .int .i64 a1, .int .i64 a2, .int .i64 a3, .int .i64 a4] ∧ -9223372036854775808 ≤ a0 ∧ a0 ≤ 9223372036854775807 ∧ -9223372036854775808 ≤ a1 ∧ a1 ≤ 9223372036854775807 ∧ -9223372036854775808 ≤ a2 ∧ a2 ≤ 9223372036854775807 ∧ -9223372036854775808 ≤ a3 ∧ a3 ≤ 9223372036854775807 ∧ -9223372036854775808 ≤ a4 ∧ a4 ≤ 9223372036854775807 := by
  obtain ⟨cs, rfl, hsz⟩ := okWide_struct Try.underlying40 hv
  obtain ⟨c0, c1, c2, c3, c4, rfl⟩ := array5 (hsz.trans cells40)
  obtain ⟨fuel, hf⟩ := h
  have hf' : DataW.trod enc Try.prog W 0 (fun _ => true) true fuel 40 [c0, c1, c2, c3, c4] = some (d, p) := by simpa [Value.cells] using hf
  obtain ⟨xs, m, _, _, _, hlen, hx⟩ := DataW.trod_struct Try.underlying40 hf'
  have hl : xs.length = 5 := hlen
  have g0 := hx 0 _ rfl
  have g1 := hx 1 _ rfl
  have g2 := hx 2 _ rfl
  have g3 := hx 3 _ rfl
  have g4 := hx 4 _ rfl
  rw [List.getElem?_eq_getElem (by omega)] at g0 g1 g2 g3 g4
  change DataW.trod enc Try.prog W 0 (fun _ => true) true m 2 (([c0, c1, c2, c3, c4].drop 0).take (Try.prog.cellsOf 2)) = _ at g0
  change DataW.trod enc Try.prog W 0 (fun _ => true) true m 2 (([c0, c1, c2, c3, c4].drop 1).take (Try.prog.cellsOf 2)) = _ at g1
  change DataW.trod enc Try.prog W 0 (fun _ => true) true m 2 (([c0, c1, c2, c3, c4].drop 2).take (Try.prog.cellsOf 2)) = _ at g2
  change DataW.trod enc Try.prog W 0 (fun _ => true) true m 2 (([c0, c1, c2, c3, c4].drop 3).take (Try.prog.cellsOf 2)) = _ at g3
  change DataW.trod enc Try.prog W 0 (fun _ => true) true m 2 (([c0, c1, c2, c3, c4].drop 4).take (Try.prog.cellsOf 2)) = _ at g4
  rw [cells2] at g0 g1 g2 g3 g4
  obtain ⟨a0, e0, _, b0⟩ := DataW.trod_int Try.underlying2 g0
  obtain ⟨a1, e1, _, b1⟩ := DataW.trod_int Try.underlying2 g1
  obtain ⟨a2, e2, _, b2⟩ := DataW.trod_int Try.underlying2 g2
  obtain ⟨a3, e3, _, b3⟩ := DataW.trod_int Try.underlying2 g3
  obtain ⟨a4, e4, _, b4⟩ := DataW.trod_int Try.underlying2 g4
  simp at e0 e1 e2 e3 e4
  exact ⟨a0, a1, a2, a3, a4, by rw [e0, e1, e2, e3, e4], i64_lo b0, i64_hi b0, i64_lo b1, i64_hi b1, i64_lo b2, i64_hi b2, i64_lo b3, i64_hi b3, i64_lo b4, i64_hi b4⟩
set_option maxRecDepth 100000 in
theorem open_hops {H : Type} {enc : TypeId × Value → H} {W : World} {base : Nat} {v : Value} {d : DataW H} {p : List MemPlace} (hv : Value.okWide Try.prog W .any base 41 v)
    (h : DataW.Trod enc Try.prog W 0 (fun _ => true) true 41 v d p) : ∃ (n : Nat) (F : Nat → Fb), Rf W v n F ∧ n ≤ 9223372036854775807 := by
  obtain ⟨a0, len, cap, rfl⟩ := okWide_slice Try.underlying41 hv
  obtain ⟨m, hm⟩ := h
  exact trod_hps (c := .slice a0 len cap) (by simpa [Value.cells] using hm)
end Go.Proofs.Ytfpklfpcencimaa
