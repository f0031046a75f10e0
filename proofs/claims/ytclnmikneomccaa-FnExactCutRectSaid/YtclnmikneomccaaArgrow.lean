/- How a slice of numbers that comes in is opened. -/
import Derived.Test.YtclnmikneomccaaArg
namespace Go.Proofs.Ytclnmikneomccaa
open Go.ChangeShapes Go.WideShapes Go.ChangeAt Go.RowKit Go.Joins Go.Deep
set_option maxRecDepth 100000 in
theorem open_row {H : Type} {enc : TypeId × Value → H} {W : World} {base : Nat} {v : Value} {d : DataW H} {p : List MemPlace} (hv : Value.okWide Try.prog W .any base 29 v)
    (h : DataW.Trod enc Try.prog W 0 (fun _ => true) true 29 v d p) : ∃ (n : Nat) (f : Nat → Int), RdRow W v n f ∧ n ≤ 9223372036854775807 := by
  obtain ⟨a0, len, cap, rfl⟩ := okWide_slice Try.underlying29 hv
  obtain ⟨fuel, hf⟩ := h
  rcases open_ints Try.underlying29 Try.underlying2 cells2 hf with ⟨hcs0, _⟩ | ⟨a, len', cap', zs, hcs0, _, hl, hm, hz, _, hc, _⟩
  · simp [Value.cells] at hcs0
    obtain ⟨rfl, rfl, rfl⟩ := hcs0
    exact ⟨0, fun _ => 0, Or.inl ⟨_, _, rfl, rfl⟩, by omega⟩
  simp [Value.cells] at hcs0
  obtain ⟨rfl, rfl, rfl⟩ := hcs0
  rw [maxLen_eq] at hm
  simp only [if_true] at hz
  by_cases h0 : len = 0
  · subst h0
    exact ⟨0, fun _ => 0, Or.inl ⟨_, _, rfl, rfl⟩, by omega⟩
  obtain ⟨b, o, spot⟩ := a
  have hspot : spot = none := by simpa [Addr.add] using World.cell?_spot (hc 0 (by omega))
  subst hspot
  exact ⟨len, fun i => zs.getD i 0, Or.inr ⟨b, o, cap, rfl, fun i hi => by rw [← add_plain]; exact hc i (by omega)⟩, by omega⟩
end Go.Proofs.Ytclnmikneomccaa
