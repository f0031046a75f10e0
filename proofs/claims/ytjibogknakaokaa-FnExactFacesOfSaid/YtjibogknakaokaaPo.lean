/- How lists of plain surfaces that came in are opened. -/
import Derived.Test.YtjibogknakaokaaPa
namespace Go.Proofs.Ytjibogknakaokaa
open Go.ChangeShapes Go.WideShapes Go.ChangeAt Go.RowKit Go.Joins
set_option linter.unusedVariables false
theorem cells120 : Try.prog.cellsOf 104 = 2 := by kernel_rfl
theorem cells2 : Try.prog.cellsOf 2 = 1 := by kernel_rfl
theorem cells4 : Try.prog.cellsOf 4 = 1 := by kernel_rfl
theorem cells122 : Try.prog.cellsOf 106 = 11 := by kernel_rfl
set_option maxRecDepth 100000 in
theorem trod_q {H : Type} {enc : TypeId × Value → H} {W : World} {base : Nat} {spare : Nat → Bool} {held : Bool} {fuel : Nat} {c0 c1 : Value} {x : DataW H × List MemPlace}
    (h : DataW.trod enc Try.prog W base spare held fuel 104 [c0, c1] = some x) : ∃ q : Q, c0 = .int .i64 q.n ∧ c1 = .int .i64 q.d := by
  obtain ⟨y0, y1, n, _, _, h0, h1⟩ := trod_struct2 Try.underlying104 h
  simp [cells2] at h0 h1
  obtain ⟨a, e0, _, wa⟩ := DataW.trod_int Try.underlying2 h0
  obtain ⟨b, e1, _, wb⟩ := DataW.trod_int Try.underlying2 h1
  simp at e0 e1
  exact ⟨⟨a, b⟩, e0, e1⟩
set_option maxRecDepth 100000 in
theorem trod_ps {H : Type} {enc : TypeId × Value → H} {W : World} {base : Nat} {spare : Nat → Bool} {held : Bool} {fuel : Nat} {c0 c1 c2 c3 c4 c5 c6 c7 c8 c9 c10 : Value} {x : DataW H × List MemPlace}
    (h : DataW.trod enc Try.prog W base spare held fuel 106 [c0, c1, c2, c3, c4, c5, c6, c7, c8, c9, c10] = some x) : ∃ g : Ps, c0 = pcell g 0 ∧ c1 = pcell g 1 ∧ c2 = pcell g 2 ∧ c3 = pcell g 3 ∧ c4 = pcell g 4 ∧ c5 = pcell g 5 ∧ c6 = pcell g 6 ∧ c7 = pcell g 7 ∧ c8 = pcell g 8 ∧ c9 = pcell g 9 ∧ c10 = pcell g 10 := by
  obtain ⟨xs, m, _, _, _, hlen, hx⟩ := DataW.trod_struct Try.underlying106 h
  have hl : xs.length = 6 := hlen
  have g0 := hx 0 _ rfl
  have g1 := hx 1 _ rfl
  have g2 := hx 2 _ rfl
  have g3 := hx 3 _ rfl
  have g4 := hx 4 _ rfl
  have g5 := hx 5 _ rfl
  rw [List.getElem?_eq_getElem (by omega)] at g0 g1 g2 g3 g4 g5
  change DataW.trod enc Try.prog W base spare held m 104 (([c0, c1, c2, c3, c4, c5, c6, c7, c8, c9, c10].drop 0).take (Try.prog.cellsOf 104)) = _ at g0
  change DataW.trod enc Try.prog W base spare held m 104 (([c0, c1, c2, c3, c4, c5, c6, c7, c8, c9, c10].drop 2).take (Try.prog.cellsOf 104)) = _ at g1
  change DataW.trod enc Try.prog W base spare held m 104 (([c0, c1, c2, c3, c4, c5, c6, c7, c8, c9, c10].drop 4).take (Try.prog.cellsOf 104)) = _ at g2
  change DataW.trod enc Try.prog W base spare held m 104 (([c0, c1, c2, c3, c4, c5, c6, c7, c8, c9, c10].drop 6).take (Try.prog.cellsOf 104)) = _ at g3
  change DataW.trod enc Try.prog W base spare held m 104 (([c0, c1, c2, c3, c4, c5, c6, c7, c8, c9, c10].drop 8).take (Try.prog.cellsOf 104)) = _ at g4
  change DataW.trod enc Try.prog W base spare held m 4 (([c0, c1, c2, c3, c4, c5, c6, c7, c8, c9, c10].drop 10).take (Try.prog.cellsOf 4)) = _ at g5
  rw [cells120] at g0 g1 g2 g3 g4
  rw [cells4] at g5
  obtain ⟨q0, a0, b0⟩ := trod_q (c0 := c0) (c1 := c1) g0
  obtain ⟨q1, a1, b1⟩ := trod_q (c0 := c2) (c1 := c3) g1
  obtain ⟨q2, a2, b2⟩ := trod_q (c0 := c4) (c1 := c5) g2
  obtain ⟨q3, a3, b3⟩ := trod_q (c0 := c6) (c1 := c7) g3
  obtain ⟨q4, a4, b4⟩ := trod_q (c0 := c8) (c1 := c9) g4
  obtain ⟨t, e5, _⟩ := DataW.trod_bool Try.underlying4 g5
  simp at e5
  exact ⟨⟨q0, q1, q2, q3, q4, t⟩, a0, b0, a1, b1, a2, b2, a3, b3, a4, b4, e5⟩
/-- A row of values out of what is known of each. -/
theorem rdv_of {W : World} {a : Addr} {len cap m : Nat} (h0 : 0 < len) (hm : 0 < m) {α : Type} (dflt : α) (f : α → Nat → Value) (Q : α → Prop) (each : ∀ i, i < len → ∃ g : α, Q g ∧ ∀ j, j < m → W.cell? ((a.add (i * m)).add j) = some (f g j)) :
    ∃ G : Nat → α, RdV W (.slice (some a) len cap) len m (fun i j => f (G i) j) ∧ ∀ i, i < len → Q (G i) := by
  obtain ⟨b, o, spot⟩ := a
  have hspot : spot = none := by
    obtain ⟨g, _, h1⟩ := each 0 h0
    simpa [Addr.add] using World.cell?_spot (h1 0 hm)
  subst hspot
  have each' : ∀ i, i < len → ∃ g : α, Q g ∧ ∀ j, j < m → W.cell? ⟨b, o + i * m + j, none⟩ = some (f g j) := fun i hi => by
    obtain ⟨g, h1, h2⟩ := each i hi
    refine ⟨g, h1, fun j hj => ?_⟩
    have := h2 j hj
    rw [add_plain, add_plain] at this
    exact this
  refine ⟨fun i => if hi : i < len then (each' i hi).choose else dflt, Or.inr ⟨b, o, cap, rfl, fun i hi j hj => ?_⟩, fun i hi => ?_⟩
  · have := (each' i hi).choose_spec.2 j hj
    simp only [hi, dif_pos]
    exact this
  · have := (each' i hi).choose_spec.1
    simp only [hi, dif_pos]
    exact this

set_option maxRecDepth 100000 in
theorem trod_pss {H : Type} {enc : TypeId × Value → H} {W : World} {base : Nat} {spare : Nat → Bool} {held : Bool} {fuel : Nat} {c : Value} {x : DataW H × List MemPlace}
    (hf : DataW.trod enc Try.prog W base spare held fuel 42 [c] = some x) : ∃ (n : Nat) (G : Nat → Ps), RdV W c n 11 (fun i j => pcell (G i) j) ∧ n ≤ 9223372036854775807 := by
  rcases DataW.trod_slice Try.underlying42 hf with ⟨hcs0, _⟩ | ⟨a, len, cap, elems, rest, n, _, hcs0, _, _, hl, hm, hlen, hel, _, _⟩
  · simp at hcs0
    subst hcs0
    exact ⟨0, fun _ => zps, Or.inl ⟨_, _, rfl, rfl⟩, by omega⟩
  simp at hcs0
  subst hcs0
  unfold maxLen at hm
  by_cases h0 : len = 0
  · subst h0
    exact ⟨0, fun _ => zps, Or.inl ⟨_, _, rfl, rfl⟩, by omega⟩
  obtain ⟨G, h1, h2⟩ := rdv_of (W := W) (a := a) (len := len) (cap := cap) (m := 11) (by omega) (by omega) zps pcell (fun _ => True) (by
    intro i hi
    have h1 := hel i hi
    rw [cells122] at h1
    obtain ⟨y, hy⟩ : ∃ y, elems[i]? = some y := ⟨elems[i]'(by omega), List.getElem?_eq_getElem (by omega)⟩
    rw [hy, Option.bind_eq_some_iff] at h1
    obtain ⟨cs', hcs, hy'⟩ := h1
    obtain ⟨_, hcl, hce⟩ := World.cells?_some hcs
    match cs', hcl with
    | [c0, c1, c2, c3, c4, c5, c6, c7, c8, c9, c10], _ =>
      obtain ⟨g, e0, e1, e2, e3, e4, e5, e6, e7, e8, e9, e10⟩ := trod_ps hy'
      refine ⟨g, trivial, fun j hj => ?_⟩
      have e := hce j hj
      rw [e0, e1, e2, e3, e4, e5, e6, e7, e8, e9, e10] at e
      match j, hj with
      | 0, _ => exact e
      | 1, _ => exact e
      | 2, _ => exact e
      | 3, _ => exact e
      | 4, _ => exact e
      | 5, _ => exact e
      | 6, _ => exact e
      | 7, _ => exact e
      | 8, _ => exact e
      | 9, _ => exact e
      | 10, _ => exact e)
  exact ⟨len, G, h1, by omega⟩
set_option maxRecDepth 100000 in
theorem open_ps {H : Type} {enc : TypeId × Value → H} {W : World} {base : Nat} {v : Value} {d : DataW H} {p : List MemPlace} (hv : Value.okWide Try.prog W .any base 42 v)
    (h : DataW.Trod enc Try.prog W 0 (fun _ => true) true 42 v d p) : ∃ (n : Nat) (G : Nat → Ps), RdV W v n 11 (fun i j => pcell (G i) j) ∧ n ≤ 9223372036854775807 := by
  obtain ⟨fuel, hf⟩ := h
  obtain ⟨a0, len, cap, rfl⟩ := okWide_slice Try.underlying42 hv
  exact trod_pss (by simpa [Value.cells] using hf)
end Go.Proofs.Ytjibogknakaokaa
