/- How lists of glasses that come in are opened. -/
import Derived.Test.YtndfncjoknibaaaDoorOpen
import Derived.Test.YtndfncjoknibaaaDoorGs
namespace Go.Proofs.YtndfncjoknibaaaDoor
open Go.ChangeShapes Go.WideShapes Go.ChangeAt Go.RowKit Go.Joins Go.Deep Fl
set_option linter.unusedVariables false
theorem gs_of {W : World} {a : Addr} {len cap : Nat} (h0 : 0 < len) (each : ∀ i, i < len → ∃ (g : Gl) (k : Value), GlOk g ∧ RdRow W k g.n g.f ∧ W.cell? ((a.add (i * 6)).add 0) = some (.string g.s) ∧ W.cell? ((a.add (i * 6)).add 1) = some (.int .i64 g.kd) ∧ W.cell? ((a.add (i * 6)).add 2) = some (.int .i64 g.lo) ∧
      W.cell? ((a.add (i * 6)).add 3) = some (.int .i64 g.hi) ∧ W.cell? ((a.add (i * 6)).add 4) = some k ∧ W.cell? ((a.add (i * 6)).add 5) = some (.float .f64 g.x)) :
    ∃ G, RdG W (.slice (some a) len cap) len G ∧ ∀ i, i < len → GlOk (G i) := by
  obtain ⟨b, o, spot⟩ := a
  have hspot : spot = none := by
    obtain ⟨g, k, _, _, h1, _⟩ := each 0 h0
    simpa [Addr.add] using World.cell?_spot h1
  subst hspot
  have each' : ∀ i, i < len → ∃ (g : Gl) (k : Value), GlOk g ∧ RdRow W k g.n g.f ∧ SixAt W b (o + i * 6) g k := fun i hi => by
    obtain ⟨g, k, h1, h2, c0, c1, c2, c3, c4, c5⟩ := each i hi
    rw [add_plain, add_plain] at c0 c1 c2 c3 c4 c5
    exact ⟨g, k, h1, h2, by simpa using c0, c1, c2, c3, c4, c5⟩
  refine ⟨fun i => if hi : i < len then (each' i hi).choose else ⟨⟨#[]⟩, 0, 0, 0, 0, fun _ => 0, 0⟩, Or.inr ⟨b, o, cap, rfl, fun i hi => ?_⟩, fun i hi => ?_⟩
  · obtain ⟨k, h1, h2, h3⟩ := (each' i hi).choose_spec
    simp only [hi, dif_pos]
    exact ⟨k, h3, h2⟩
  · obtain ⟨k, h1, h2, h3⟩ := (each' i hi).choose_spec
    simp only [hi, dif_pos]
    exact h1
set_option maxRecDepth 100000 in
theorem open_gs {H : Type} {enc : TypeId × Value → H} {W : World} {base : Nat} {v : Value} {d : DataW H} {p : List MemPlace} (hv : Value.okWide Tryd.prog W .any base 53 v)
    (h : DataW.Trod enc Tryd.prog W 0 (fun _ => true) true 53 v d p) : ∃ (n : Nat) (G : Nat → Gl), RdG W v n G ∧ n ≤ 9223372036854775807 ∧ ∀ i, i < n → GlOk (G i) := by
  obtain ⟨a0, len, cap, rfl⟩ := okWide_slice Tryd.underlying53 hv
  obtain ⟨fuel, hf⟩ := h
  rcases DataW.trod_slice Tryd.underlying53 hf with ⟨hcs0, _⟩ | ⟨a, len', cap', elems, rest, n, _, hcs0, _, _, hl, hm, hlen, hel, _, _⟩
  · simp [Value.cells] at hcs0
    obtain ⟨rfl, rfl, rfl⟩ := hcs0
    exact ⟨0, fun _ => ⟨⟨#[]⟩, 0, 0, 0, 0, fun _ => 0, 0⟩, Or.inl ⟨_, _, rfl, rfl⟩, by omega, fun i hi => by omega⟩
  simp [Value.cells] at hcs0
  obtain ⟨rfl, rfl, rfl⟩ := hcs0
  rw [maxLen_eq] at hm
  by_cases h0 : len = 0
  · subst h0
    exact ⟨0, fun _ => ⟨⟨#[]⟩, 0, 0, 0, 0, fun _ => 0, 0⟩, Or.inl ⟨_, _, rfl, rfl⟩, by omega, fun i hi => by omega⟩
  obtain ⟨G, h1, h2⟩ := gs_of (W := W) (a := a) (len := len) (cap := cap) (by omega) (by
    intro i hi
    have h1 := hel i hi
    rw [cells25] at h1
    obtain ⟨y, hy⟩ : ∃ y, elems[i]? = some y := ⟨elems[i]'(by omega), List.getElem?_eq_getElem (by omega)⟩
    rw [hy, Option.bind_eq_some_iff] at h1
    obtain ⟨cs', hcs, hy'⟩ := h1
    obtain ⟨_, hcl, hce⟩ := World.cells?_some hcs
    match cs', hcl with
    | [c0, c1, c2, c3, c4, c5], _ =>
      obtain ⟨s, kd, lo, hi', n, f, x, g⟩ := trod_glass hy'
      have q0 := hce 0 (by omega)
      have q1 := hce 1 (by omega)
      have q2 := hce 2 (by omega)
      have q3 := hce 3 (by omega)
      have q4 := hce 4 (by omega)
      have q5 := hce 5 (by omega)
      rw [g.e0] at q0
      rw [g.e1] at q1
      rw [g.e2] at q2
      rw [g.e3] at q3
      rw [g.e5] at q5
      exact ⟨⟨s, kd, lo, hi', n, f, x⟩, c4, ⟨g.hs, g.hn, g.hx⟩, g.row, q0, q1, q2, q3, q4, q5⟩)
  exact ⟨len, G, h1, by omega, h2⟩
end Go.Proofs.YtndfncjoknibaaaDoor
