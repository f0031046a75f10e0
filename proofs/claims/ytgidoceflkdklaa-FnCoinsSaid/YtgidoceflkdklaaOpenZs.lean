/- How lists of complex numbers that come in are opened. -/
import Derived.Test.YtgidoceflkdklaaOpenZ
import Derived.Test.YtgidoceflkdklaaSu
namespace Go.Proofs.Ytgidoceflkdklaa
open Go.ChangeShapes Go.WideShapes Go.ChangeAt Go.RowKit Go.Joins Go.Deep Fl
theorem maxLen_eq : maxLen = 9223372036854775807 := rfl
theorem trod_z {H : Type} {enc : TypeId × Value → H} {W : World} {base : Nat} {spare : Nat → Bool} {held : Bool} {fuel : Nat} {c0 c1 : Value} {x : DataW H × List MemPlace}
    (h : DataW.trod enc Try.prog W base spare held fuel 77 [c0, c1] = some x) : ∃ a b, c0 = .float .f64 a ∧ c1 = .float .f64 b ∧ W64 a ∧ W64 b := by
  obtain ⟨y0, y1, n, _, _, h0, h1⟩ := trod_struct2 Try.underlying77 h
  have o26 : Try.prog.cellsOf 52 = 1 := by kernel_rfl
  simp [o26] at h0 h1
  obtain ⟨a, e0, wa⟩ := trod_float Try.underlying52 h0
  obtain ⟨b, e1, wb⟩ := trod_float Try.underlying52 h1
  simp at e0 e1
  exact ⟨a, b, e0, e1, f64_lt wa, f64_lt wb⟩
/-- A slice whose numbers all lie there is a row that can be read. -/
theorem rdm_of {W : World} {a : Addr} {len cap m : Nat} (hm : 0 < m) (h0 : 0 < len) (each : ∀ i, i < len → ∃ g : Nat → Nat, ∀ j, j < m → W.cell? ((a.add (i * m)).add j) = some (.float .f64 (g j)) ∧ W64 (g j)) :
    ∃ f, RdM W (.slice (some a) len cap) len m f ∧ ∀ i, i < len → ∀ j, j < m → W64 (f i j) := by
  obtain ⟨b, o, spot⟩ := a
  have hspot : spot = none := by
    obtain ⟨g, hg⟩ := each 0 h0
    have := (hg 0 hm).1
    simpa [Addr.add] using World.cell?_spot this
  subst hspot
  have each' : ∀ i, i < len → ∃ g : Nat → Nat, ∀ j, j < m → W.cell? ⟨b, o + i * m + j, none⟩ = some (.float .f64 (g j)) ∧ W64 (g j) := fun i hi => by
    obtain ⟨g, hg⟩ := each i hi
    refine ⟨g, fun j hj => ⟨?_, (hg j hj).2⟩⟩
    have := (hg j hj).1
    rw [add_plain, add_plain] at this
    exact this
  refine ⟨fun i j => if hi : i < len then (each' i hi).choose j else 0, Or.inr ⟨b, o, cap, rfl, fun i hi j hj => ?_⟩, fun i hi j hj => ?_⟩
  · have := ((each' i hi).choose_spec j hj).1
    simpa [hi] using this
  · have := ((each' i hi).choose_spec j hj).2
    simpa [hi] using this
set_option maxRecDepth 100000 in
theorem open_zrow {H : Type} {enc : TypeId × Value → H} {W : World} {base : Nat} {v : Value} {d : DataW H} {p : List MemPlace} (hv : Value.okWide Try.prog W .any base 32 v)
    (h : DataW.Trod enc Try.prog W 0 (fun _ => true) true 32 v d p) : ∃ (n : Nat) (f : Nat → Nat → Nat), RdM W v n 2 f ∧ n ≤ 9223372036854775807 ∧ ∀ i, i < n → Zc (f i 0) (f i 1) (clZ f i) := by
  obtain ⟨a0, len, cap, rfl⟩ := okWide_slice Try.underlying32 hv
  obtain ⟨fuel, hf⟩ := h
  rcases DataW.trod_slice Try.underlying32 hf with ⟨hcs0, _⟩ | ⟨a, len', cap', elems, rest, n, _, hcs0, _, _, hl, hm, hlen, hel, _, _⟩
  · simp [Value.cells] at hcs0
    obtain ⟨rfl, rfl, rfl⟩ := hcs0
    exact ⟨0, fun _ _ => 0, Or.inl ⟨_, _, rfl, rfl⟩, by omega, fun i hi => by omega⟩
  simp [Value.cells] at hcs0
  obtain ⟨rfl, rfl, rfl⟩ := hcs0
  rw [maxLen_eq] at hm
  by_cases h0 : len = 0
  · subst h0
    exact ⟨0, fun _ _ => 0, Or.inl ⟨_, _, rfl, rfl⟩, by omega, fun i hi => by omega⟩
  obtain ⟨f, h1, h2⟩ := rdm_of (W := W) (a := a) (len := len) (cap := cap) (m := 2) (by omega) (by omega) (by
    intro i hi
    have h1 := hel i hi
    rw [cells31] at h1
    obtain ⟨y, hy⟩ : ∃ y, elems[i]? = some y := ⟨elems[i]'(by omega), List.getElem?_eq_getElem (by omega)⟩
    rw [hy, Option.bind_eq_some_iff] at h1
    obtain ⟨cs', hcs, hy'⟩ := h1
    obtain ⟨_, hcl, hce⟩ := World.cells?_some hcs
    match cs', hcl with
    | [c0, c1], _ =>
      obtain ⟨u, v, rfl, rfl, hu, hv⟩ := trod_z hy'
      refine ⟨fun j => if j = 0 then u else v, fun j hj => ?_⟩
      match j, hj with
      | 0, _ => exact ⟨hce 0 (by omega), hu⟩
      | 1, _ => exact ⟨hce 1 (by omega), hv⟩)
  exact ⟨len, f, h1, by omega, fun i hi => ⟨h2 i hi 0 (by omega), h2 i hi 1 (by omega), rfl⟩⟩
end Go.Proofs.Ytgidoceflkdklaa
