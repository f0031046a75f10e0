/- How a net that comes in is opened. -/
import Derived.Test.YtfpklfpcencimaaArgrow
import Derived.Test.YtfpklfpcencimaaNh
namespace Go.Proofs.Ytfpklfpcencimaa
open Go.ChangeShapes Go.WideShapes Go.ChangeAt Go.RowKit Go.Joins Go.Deep
set_option linter.unusedVariables false
set_option linter.unusedSimpArgs false
theorem cells24 : Try.prog.cellsOf 24 = 3 := by kernel_rfl
theorem cells22 : Try.prog.cellsOf 22 = 1 := by kernel_rfl
theorem cells126 : Try.prog.cellsOf 90 = 3 := by kernel_rfl
theorem array3 {cs : Array Value} (h : cs.size = 3) : ∃ c0 c1 c2, cs = #[c0, c1, c2] := by
  match cs, h with
  | ⟨[c0, c1, c2]⟩, _ => exact ⟨c0, c1, c2, rfl⟩
theorem rdv_of {α : Type} {W : World} {a : Addr} {len cap m : Nat} (hm : 0 < m) (h0 : 0 < len) (dflt : α) (f : α → Nat → Value) (Q : α → Prop)
    (each : ∀ i, i < len → ∃ g : α, Q g ∧ ∀ j, j < m → W.cell? ((a.add (i * m)).add j) = some (f g j)) :
    ∃ G : Nat → α, RdV W (.slice (some a) len cap) len m (fun i j => f (G i) j) ∧ ∀ i, i < len → Q (G i) := by
  obtain ⟨b, o, spot⟩ := a
  have hspot : spot = none := by
    obtain ⟨g, _, h1⟩ := each 0 h0
    simpa [Addr.add] using World.cell?_spot (h1 0 hm)
  subst hspot
  have each' : ∀ i, i < len → ∃ g : α, Q g ∧ ∀ j, j < m → W.cell? ⟨b, o + i * m + j, none⟩ = some (f g j) := fun i hi => by
    obtain ⟨g, h1, h2⟩ := each i hi
    refine ⟨g, h1, fun j hj => ?_⟩
    have := h2 j hj
    rw [add_plain, add_plain] at this
    exact this
  refine ⟨fun i => if hi : i < len then (each' i hi).choose else dflt, Or.inr ⟨b, o, cap, rfl, fun i hi j hj => ?_⟩, fun i hi => ?_⟩
  · have := (each' i hi).choose_spec.2 j hj
    simp only [hi, dif_pos]
    exact this
  · have := (each' i hi).choose_spec.1
    simp only [hi, dif_pos]
    exact this
set_option maxRecDepth 100000 in
theorem trod_fb {H : Type} {enc : TypeId × Value → H} {W : World} {base : Nat} {spare : Nat → Bool} {held : Bool} {fuel : Nat} {c0 c1 c2 : Value} {x : DataW H × List MemPlace}
    (hf : DataW.trod enc Try.prog W base spare held fuel 90 [c0, c1, c2] = some x) : ∃ g : Fb, c0 = .int .i64 g.a ∧ c1 = .int .i64 g.b ∧ c2 = .int .i64 g.km := by
  obtain ⟨xs, m, _, _, _, hlen, hx⟩ := DataW.trod_struct Try.underlying90 hf
  have hl : xs.length = 3 := hlen
  have g0 := hx 0 _ rfl
  have g1 := hx 1 _ rfl
  have g2 := hx 2 _ rfl
  rw [List.getElem?_eq_getElem (by omega)] at g0 g1 g2
  change DataW.trod enc Try.prog W base spare held m 2 (([c0, c1, c2].drop 0).take (Try.prog.cellsOf 2)) = _ at g0
  change DataW.trod enc Try.prog W base spare held m 2 (([c0, c1, c2].drop 1).take (Try.prog.cellsOf 2)) = _ at g1
  change DataW.trod enc Try.prog W base spare held m 2 (([c0, c1, c2].drop 2).take (Try.prog.cellsOf 2)) = _ at g2
  rw [cells2] at g0 g1 g2
  obtain ⟨a, e0, _, _⟩ := DataW.trod_int Try.underlying2 g0
  obtain ⟨b, e1, _, _⟩ := DataW.trod_int Try.underlying2 g1
  obtain ⟨c, e2, _, _⟩ := DataW.trod_int Try.underlying2 g2
  simp at e0 e1 e2
  exact ⟨⟨a, b, c⟩, e0, e1, e2⟩
set_option maxRecDepth 100000 in
theorem trod_fbs {H : Type} {enc : TypeId × Value → H} {W : World} {base : Nat} {spare : Nat → Bool} {held : Bool} {fuel : Nat} {c : Value} {x : DataW H × List MemPlace}
    (hf : DataW.trod enc Try.prog W base spare held fuel 22 [c] = some x) : ∃ (n : Nat) (G : Nat → Fb), Rf W c n G ∧ n ≤ 9223372036854775807 := by
  rcases DataW.trod_slice Try.underlying22 hf with ⟨hcs0, _⟩ | ⟨a, len, cap, elems, rest, n, _, hcs0, _, _, hl, hm, hlen, hel, _, _⟩
  · simp at hcs0
    subst hcs0
    exact ⟨0, fun _ => zf, Or.inl ⟨_, _, rfl, rfl⟩, by omega⟩
  simp at hcs0
  subst hcs0
  unfold maxLen at hm
  by_cases h0 : len = 0
  · subst h0
    exact ⟨0, fun _ => zf, Or.inl ⟨_, _, rfl, rfl⟩, by omega⟩
  obtain ⟨G, h1, h2⟩ := rdv_of (W := W) (a := a) (len := len) (cap := cap) (m := 3) (by omega) (by omega) zf fcell (fun _ => True) (by
    intro i hi
    have h1 := hel i hi
    rw [cells126] at h1
    obtain ⟨y, hy⟩ : ∃ y, elems[i]? = some y := ⟨elems[i]'(by omega), List.getElem?_eq_getElem (by omega)⟩
    rw [hy, Option.bind_eq_some_iff] at h1
    obtain ⟨cs', hcs, hy'⟩ := h1
    obtain ⟨_, hcl, hce⟩ := World.cells?_some hcs
    match cs', hcl with
    | [c0, c1, c2], _ =>
      obtain ⟨g, e0, e1, e2⟩ := trod_fb hy'
      refine ⟨g, trivial, fun j hj => ?_⟩
      have e := hce j hj
      rw [e0, e1, e2] at e
      match j, hj with
      | 0, _ => exact e
      | 1, _ => exact e
      | 2, _ => exact e)
  exact ⟨len, G, h1, by omega⟩
set_option maxRecDepth 100000 in
theorem open_net {H : Type} {enc : TypeId × Value → H} {W : World} {base : Nat} {v : Value} {d : DataW H} {p : List MemPlace} (hv : Value.okWide Try.prog W .any base 24 v)
    (h : DataW.Trod enc Try.prog W 0 (fun _ => true) true 24 v d p) : ∃ (nodes slots : Int) (ao : Option Addr) (nf cp : Nat) (F : Nat → Fb), v = .agg #[.int .i64 nodes, .int .i64 slots, .slice ao nf cp] ∧ Rf W (.slice ao nf cp) nf F ∧ nf ≤ 9223372036854775807 ∧ -9223372036854775808 ≤ nodes ∧ nodes ≤ 9223372036854775807 ∧ -9223372036854775808 ≤ slots ∧ slots ≤ 9223372036854775807 := by
  obtain ⟨cs, rfl, hsz⟩ := okWide_struct Try.underlying24 hv
  obtain ⟨c0, c1, c2, rfl⟩ := array3 (hsz.trans cells24)
  obtain ⟨fuel, hf⟩ := h
  have hf' : DataW.trod enc Try.prog W 0 (fun _ => true) true fuel 24 [c0, c1, c2] = some (d, p) := by simpa [Value.cells] using hf
  obtain ⟨xs, m, _, _, _, hlen, hx⟩ := DataW.trod_struct Try.underlying24 hf'
  have hl : xs.length = 3 := hlen
  have g0 := hx 0 _ rfl
  have g1 := hx 1 _ rfl
  have g2 := hx 2 _ rfl
  rw [List.getElem?_eq_getElem (by omega)] at g0 g1 g2
  change DataW.trod enc Try.prog W 0 (fun _ => true) true m 2 (([c0, c1, c2].drop 0).take (Try.prog.cellsOf 2)) = _ at g0
  change DataW.trod enc Try.prog W 0 (fun _ => true) true m 2 (([c0, c1, c2].drop 1).take (Try.prog.cellsOf 2)) = _ at g1
  change DataW.trod enc Try.prog W 0 (fun _ => true) true m 22 (([c0, c1, c2].drop 2).take (Try.prog.cellsOf 22)) = _ at g2
  rw [cells2] at g0 g1
  rw [cells22] at g2
  obtain ⟨a, e0, _, b0⟩ := DataW.trod_int Try.underlying2 g0
  obtain ⟨b, e1, _, b1⟩ := DataW.trod_int Try.underlying2 g1
  simp at e0 e1
  obtain ⟨nf, F, h2, b2⟩ := trod_fbs (c := c2) g2
  obtain ⟨bo, cq, rfl⟩ := h2.form
  exact ⟨a, b, bo, nf, cq, F, by rw [e0, e1], h2, b2, i64_lo b0, i64_hi b0, i64_lo b1, i64_hi b1⟩
end Go.Proofs.Ytfpklfpcencimaa
