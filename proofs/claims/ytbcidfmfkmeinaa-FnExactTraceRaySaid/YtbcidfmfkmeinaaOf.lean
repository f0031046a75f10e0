/- How a list of faces that comes in is opened. -/
import Derived.Test.YtbcidfmfkmeinaaTw
import Derived.Test.YtbcidfmfkmeinaaOp
import Derived.Handy
import Derived.Deep.Matrix
namespace Go.Proofs.Ytbcidfmfkmeinaa
open Go.ChangeShapes Go.WideShapes Go.ChangeAt Go.RowKit Go.Joins Go.Deep Fl
theorem maxLen_eq9 : maxLen = 9223372036854775807 := rfl
theorem rdv_of {W : World} {a : Addr} {len cap m : Nat} (h0 : 0 < len) (hm : 0 < m) {α : Type} (dflt : α) (f : α → Nat → Value) (Q : α → Prop) (each : ∀ i, i < len → ∃ g : α, Q g ∧ ∀ j, j < m → W.cell? ((a.add (i * m)).add j) = some (f g j)) :
    ∃ G : Nat → α, RdV W (.slice (some a) len cap) len m (fun i j => f (G i) j) ∧ ∀ i, i < len → Q (G i) := by
  obtain ⟨b, o, spot⟩ := a
  have hspot : spot = none := by
    obtain ⟨g, _, h1⟩ := each 0 h0
    simpa [Addr.add] using World.cell?_spot (h1 0 hm)
  subst hspot
  have each' : ∀ i, i < len → ∃ g : α, Q g ∧ ∀ j, j < m → W.cell? ⟨b, o + i * m + j, none⟩ = some (f g j) := fun i hi => by
    obtain ⟨g, h1, h2⟩ := each i hi
    refine ⟨g, h1, fun j hj => ?_⟩
    have := h2 j hj
    rw [add_plain, add_plain] at this
    exact this
  refine ⟨fun i => if hi : i < len then (each' i hi).choose else dflt, Or.inr ⟨b, o, cap, rfl, fun i hi j hj => ?_⟩, fun i hi => ?_⟩
  · have := (each' i hi).choose_spec.2 j hj
    simp only [hi, dif_pos]
    exact this
  · have := (each' i hi).choose_spec.1
    simp only [hi, dif_pos]
    exact this

set_option maxRecDepth 100000 in
theorem trod_face {H : Type} {enc : TypeId × Value → H} {W : World} {fuel : Nat} {c0 c1 c2 c3 c4 : Value} {d : DataW H} {p : List MemPlace} (hf : DataW.trod enc Try.prog W 0 (fun _ => true) true fuel 49 [c0, c1, c2, c3, c4] = some (d, p)) :
    ∃ g : Nat → Nat, Gc g (fun j => cl (g j)) ∧ c0 = fcl g 0 ∧ c1 = fcl g 1 ∧ c2 = fcl g 2 ∧ c3 = fcl g 3 ∧ c4 = fcl g 4 := by
  obtain ⟨xs, m, _, _, _, hlen, hx⟩ := DataW.trod_struct Try.underlying49 hf
  have hl : xs.length = 5 := hlen
  have g0 := hx 0 _ rfl
  have g1 := hx 1 _ rfl
  have g2 := hx 2 _ rfl
  have g3 := hx 3 _ rfl
  have g4 := hx 4 _ rfl
  rw [List.getElem?_eq_getElem (by omega)] at g0 g1 g2 g3 g4
  change DataW.trod enc Try.prog W 0 (fun _ => true) true m 23 (([c0, c1, c2, c3, c4].drop 0).take (Try.prog.cellsOf 23)) = _ at g0
  change DataW.trod enc Try.prog W 0 (fun _ => true) true m 23 (([c0, c1, c2, c3, c4].drop 1).take (Try.prog.cellsOf 23)) = _ at g1
  change DataW.trod enc Try.prog W 0 (fun _ => true) true m 23 (([c0, c1, c2, c3, c4].drop 2).take (Try.prog.cellsOf 23)) = _ at g2
  change DataW.trod enc Try.prog W 0 (fun _ => true) true m 23 (([c0, c1, c2, c3, c4].drop 3).take (Try.prog.cellsOf 23)) = _ at g3
  change DataW.trod enc Try.prog W 0 (fun _ => true) true m 23 (([c0, c1, c2, c3, c4].drop 4).take (Try.prog.cellsOf 23)) = _ at g4
  rw [cells25] at g0 g1 g2 g3 g4
  obtain ⟨a0, e0, w0⟩ := trod_float Try.underlying23 g0
  obtain ⟨a1, e1, w1⟩ := trod_float Try.underlying23 g1
  obtain ⟨a2, e2, w2⟩ := trod_float Try.underlying23 g2
  obtain ⟨a3, e3, w3⟩ := trod_float Try.underlying23 g3
  obtain ⟨a4, e4, w4⟩ := trod_float Try.underlying23 g4
  simp at e0 e1 e2 e3 e4
  subst e0 e1 e2 e3 e4
  exact ⟨r6 a0 a1 a2 a3 a4 0, ⟨fun j hj => match j, hj with | 0, _ => fc_own (f64_lt w0) | 1, _ => fc_own (f64_lt w1) | 2, _ => fc_own (f64_lt w2) | 3, _ => fc_own (f64_lt w3) | 4, _ => fc_own (f64_lt w4)⟩, rfl, rfl, rfl, rfl, rfl⟩
set_option maxRecDepth 100000 in
theorem open_faces {H : Type} {enc : TypeId × Value → H} {W : World} {base : Nat} {v : Value} {d : DataW H} {p : List MemPlace} (hv : Value.okWide Try.prog W .any base 22 v)
    (h : DataW.Trod enc Try.prog W 0 (fun _ => true) true 22 v d p) : ∃ (n : Nat) (G : Nat → Nat → Nat), RdV W v n 5 (fun i j => fcl (G i) j) ∧ n ≤ 9223372036854775807 ∧ ∀ i, i < n → Gc (G i) (fun j => cl (G i j)) := by
  obtain ⟨fuel, hf⟩ := h
  obtain ⟨a0, len0, cap0, rfl⟩ := okWide_slice Try.underlying22 hv
  rcases DataW.trod_slice Try.underlying22 hf with ⟨hcs0, _⟩ | ⟨a, len, cap, elems, rest, n, _, hcs0, _, _, hl, hm, hlen, hel, _, _⟩
  · simp [Value.cells] at hcs0
    obtain ⟨rfl, rfl, rfl⟩ := hcs0
    exact ⟨0, fun _ => zfl, Or.inl ⟨_, _, rfl, rfl⟩, by omega, fun i hi => by omega⟩
  simp [Value.cells] at hcs0
  obtain ⟨rfl, rfl, rfl⟩ := hcs0
  rw [maxLen_eq9] at hm
  by_cases h0 : len0 = 0
  · subst h0
    exact ⟨0, fun _ => zfl, Or.inl ⟨_, _, rfl, rfl⟩, by omega, fun i hi => by omega⟩
  obtain ⟨G, h1, h2⟩ := rdv_of (W := W) (a := a) (len := len0) (cap := cap0) (m := 5) (by omega) (by omega) zfl fcl (fun g => Gc g (fun j => cl (g j))) (by
    intro i hi
    have h1 := hel i hi
    rw [cells53] at h1
    obtain ⟨y, hy⟩ : ∃ y, elems[i]? = some y := ⟨elems[i]'(by omega), List.getElem?_eq_getElem (by omega)⟩
    rw [hy, Option.bind_eq_some_iff] at h1
    obtain ⟨cs', hcs, hy'⟩ := h1
    obtain ⟨_, hcl, hce⟩ := World.cells?_some hcs
    match cs', hcl with
    | [c0, c1, c2, c3, c4], _ =>
      obtain ⟨g, hg, e0, e1, e2, e3, e4⟩ := trod_face hy'
      refine ⟨g, hg, fun j hj => ?_⟩
      have e := hce j hj
      rw [e0, e1, e2, e3, e4] at e
      match j, hj with
      | 0, _ => exact e
      | 1, _ => exact e
      | 2, _ => exact e
      | 3, _ => exact e
      | 4, _ => exact e)
  exact ⟨len0, G, h1, by omega, h2⟩
end Go.Proofs.Ytbcidfmfkmeinaa
