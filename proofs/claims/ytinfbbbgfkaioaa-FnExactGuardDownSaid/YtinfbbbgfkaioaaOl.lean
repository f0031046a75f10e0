/- How a list of lights that comes in is opened. -/
import Derived.Test.YtinfbbbgfkaioaaOn
import Derived.Test.YtinfbbbgfkaioaaLc
namespace Go.Proofs.Ytinfbbbgfkaioaa
open Go.ChangeShapes Go.WideShapes Go.ChangeAt Go.RowKit Go.Joins Go.Deep
set_option linter.unusedVariables false
set_option linter.unusedSimpArgs false
theorem cells103 : Try.prog.cellsOf 74 = 6 := by kernel_rfl
set_option maxRecDepth 100000 in
theorem trod_row {H : Type} {enc : TypeId × Value → H} {W : World} {fuel : Nat} {c : Value} {x : DataW H × List MemPlace}
    (hf : DataW.trod enc Try.prog W 0 (fun _ => true) true fuel 72 [c] = some x) : ∃ (n : Nat) (f : Nat → Int), RdRow W c n f ∧ n ≤ 9223372036854775807 := by
  rcases open_ints Try.underlying72 Try.underlying2 cells2 hf with ⟨hcs0, _⟩ | ⟨a, len', cap', zs, hcs0, _, hl, hm, hz, _, hc, _⟩
  · simp at hcs0
    subst hcs0
    exact ⟨0, fun _ => 0, Or.inl ⟨_, _, rfl, rfl⟩, by omega⟩
  simp at hcs0
  subst hcs0
  rw [maxLen_eq] at hm
  simp only [if_true] at hz
  by_cases h0 : len' = 0
  · subst h0
    exact ⟨0, fun _ => 0, Or.inl ⟨_, _, rfl, rfl⟩, by omega⟩
  obtain ⟨b, o, spot⟩ := a
  have hspot : spot = none := by simpa [Addr.add] using World.cell?_spot (hc 0 (by omega))
  subst hspot
  exact ⟨len', fun i => zs.getD i 0, Or.inr ⟨b, o, cap', rfl, fun i hi => by rw [← add_plain]; exact hc i (by omega)⟩, by omega⟩
/-- What one light that comes in tells. -/
def LOne (W : World) (g : Li × Value) : Prop := RdRow W g.2 g.1.np g.1.p ∧ g.1.np ≤ 9223372036854775807 ∧ -9223372036854775808 ≤ g.1.fi ∧ g.1.fi ≤ 9223372036854775807 ∧ -9223372036854775808 ≤ g.1.wd ∧ g.1.wd ≤ 9223372036854775807 ∧ g.1.id ≤ 9223372036854775807
set_option maxRecDepth 100000 in
theorem trod_lit {H : Type} {enc : TypeId × Value → H} {W : World} {fuel : Nat} {c0 c1 c2 c3 c4 c5 : Value} {x : DataW H × List MemPlace}
    (hf : DataW.trod enc Try.prog W 0 (fun _ => true) true fuel 74 [c0, c1, c2, c3, c4, c5] = some x) : ∃ g : Li × Value, LOne W g ∧ c0 = .int .i64 g.1.id ∧ c1 = .int .i64 g.1.fr ∧ c2 = .int .i64 g.1.tt ∧ c3 = g.2 ∧ c4 = .int .i64 g.1.fi ∧ c5 = .int .i64 g.1.wd := by
  obtain ⟨xs, m, _, _, _, hlen, hx⟩ := DataW.trod_struct Try.underlying74 hf
  have hl : xs.length = 6 := hlen
  have g0 := hx 0 _ rfl
  have g1 := hx 1 _ rfl
  have g2 := hx 2 _ rfl
  have g3 := hx 3 _ rfl
  have g4 := hx 4 _ rfl
  have g5 := hx 5 _ rfl
  rw [List.getElem?_eq_getElem (by omega)] at g0 g1 g2 g3 g4 g5
  change DataW.trod enc Try.prog W 0 (fun _ => true) true m 2 (([c0, c1, c2, c3, c4, c5].drop 0).take (Try.prog.cellsOf 2)) = _ at g0
  change DataW.trod enc Try.prog W 0 (fun _ => true) true m 2 (([c0, c1, c2, c3, c4, c5].drop 1).take (Try.prog.cellsOf 2)) = _ at g1
  change DataW.trod enc Try.prog W 0 (fun _ => true) true m 2 (([c0, c1, c2, c3, c4, c5].drop 2).take (Try.prog.cellsOf 2)) = _ at g2
  change DataW.trod enc Try.prog W 0 (fun _ => true) true m 72 (([c0, c1, c2, c3, c4, c5].drop 3).take (Try.prog.cellsOf 72)) = _ at g3
  change DataW.trod enc Try.prog W 0 (fun _ => true) true m 2 (([c0, c1, c2, c3, c4, c5].drop 4).take (Try.prog.cellsOf 2)) = _ at g4
  change DataW.trod enc Try.prog W 0 (fun _ => true) true m 2 (([c0, c1, c2, c3, c4, c5].drop 5).take (Try.prog.cellsOf 2)) = _ at g5
  rw [cells2] at g0 g1 g2 g4 g5
  rw [cells38] at g3
  obtain ⟨a, e0, _, b0⟩ := DataW.trod_int Try.underlying2 g0
  obtain ⟨b, e1, _, _⟩ := DataW.trod_int Try.underlying2 g1
  obtain ⟨c, e2, _, _⟩ := DataW.trod_int Try.underlying2 g2
  obtain ⟨d, e4, _, b4⟩ := DataW.trod_int Try.underlying2 g4
  obtain ⟨e, e5, _, b5⟩ := DataW.trod_int Try.underlying2 g5
  simp at e0 e1 e2 e4 e5
  obtain ⟨np, p, h2, b2⟩ := trod_row (c := c3) g3
  exact ⟨⟨⟨a, b, c, np, p, d, e⟩, c3⟩, ⟨h2, b2, i64_lo b4, i64_hi b4, i64_lo b5, i64_hi b5, i64_hi b0⟩, e0, e1, e2, rfl, e4, e5⟩
set_option maxRecDepth 100000 in
theorem open_lits {H : Type} {enc : TypeId × Value → H} {W : World} {base : Nat} {v : Value} {d : DataW H} {p : List MemPlace} (hv : Value.okWide Try.prog W .any base 25 v)
    (h : DataW.Trod enc Try.prog W 0 (fun _ => true) true 25 v d p) : ∃ (n : Nat) (L : Nat → Li), RdL W v n L ∧ n ≤ 9223372036854775807 ∧ LBd n L := by
  obtain ⟨a0, len0, cap0, rfl⟩ := okWide_slice Try.underlying25 hv
  obtain ⟨fuel, hf0⟩ := h
  have hf : DataW.trod enc Try.prog W 0 (fun _ => true) true fuel 25 [.slice a0 len0 cap0] = some (d, p) := by simpa [Value.cells] using hf0
  rcases DataW.trod_slice Try.underlying25 hf with ⟨hcs0, _⟩ | ⟨a, len, cap, elems, rest, n, _, hcs0, _, _, hl, hm, hlen, hel, _, _⟩
  · simp at hcs0
    obtain ⟨rfl, rfl, rfl⟩ := hcs0
    exact ⟨0, fun _ => zl, ⟨fun _ => .slice none 0 0, Or.inl ⟨_, _, rfl, rfl⟩, fun i hi => absurd hi (Nat.not_lt_zero _)⟩, by omega, fun i hi => absurd hi (Nat.not_lt_zero _)⟩
  simp at hcs0
  obtain ⟨rfl, rfl, rfl⟩ := hcs0
  unfold maxLen at hm
  by_cases h0 : len0 = 0
  · subst h0
    exact ⟨0, fun _ => zl, ⟨fun _ => .slice none 0 0, Or.inl ⟨_, _, rfl, rfl⟩, fun i hi => absurd hi (Nat.not_lt_zero _)⟩, by omega, fun i hi => absurd hi (Nat.not_lt_zero _)⟩
  obtain ⟨G, h1, h2⟩ := rdv_of (W := W) (a := a) (len := len0) (cap := cap0) (m := 6) (by omega) (by omega) (zl, Value.slice none 0 0) (fun g j => lcell g.1 g.2 j) (LOne W) (by
    intro i hi
    have h1 := hel i hi
    rw [cells103] at h1
    obtain ⟨y, hy⟩ : ∃ y, elems[i]? = some y := ⟨elems[i]'(by omega), List.getElem?_eq_getElem (by omega)⟩
    rw [hy, Option.bind_eq_some_iff] at h1
    obtain ⟨cs', hcs, hy'⟩ := h1
    obtain ⟨_, hcl, hce⟩ := World.cells?_some hcs
    match cs', hcl with
    | [c0, c1, c2, c3, c4, c5], _ =>
      obtain ⟨g, hg, e0, e1, e2, e3, e4, e5⟩ := trod_lit hy'
      refine ⟨g, hg, fun j hj => ?_⟩
      have e := hce j hj
      rw [e0, e1, e2, e3, e4, e5] at e
      match j, hj with
      | 0, _ => exact e
      | 1, _ => exact e
      | 2, _ => exact e
      | 3, _ => exact e
      | 4, _ => exact e
      | 5, _ => exact e)
  exact ⟨len0, fun i => (G i).1, ⟨fun i => (G i).2, h1, fun i hi => (h2 i hi).1⟩, by omega, fun i hi => (h2 i hi).2⟩
end Go.Proofs.Ytinfbbbgfkaioaa
