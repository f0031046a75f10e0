/- How lists of parts that came in are opened. -/
import Derived.Test.YtdmjfphmgpkfcaaPq
namespace Go.Proofs.Ytdmjfphmgpkfcaa
open Go.ChangeShapes Go.WideShapes Go.ChangeAt Go.RowKit Go.Joins
set_option linter.unusedVariables false
/-- A row of values out of what is known of each. -/
theorem rdv_of {W : World} {a : Addr} {len cap m : Nat} (h0 : 0 < len) (hm : 0 < m) {α : Type} (dflt : α) (f : α → Nat → Value) (Q : α → Prop) (each : ∀ i, i < len → ∃ g : α, Q g ∧ ∀ j, j < m → W.cell? ((a.add (i * m)).add j) = some (f g j)) :
    ∃ G : Nat → α, RdV W (.slice (some a) len cap) len m (fun i j => f (G i) j) ∧ ∀ i, i < len → Q (G i) := by
  obtain ⟨b, o, spot⟩ := a
  have hspot : spot = none := by
    obtain ⟨g, _, h1⟩ := each 0 h0
    simpa [Addr.add] using World.cell?_spot (h1 0 hm)
  subst hspot
  have each' : ∀ i, i < len → ∃ g : α, Q g ∧ ∀ j, j < m → W.cell? ⟨b, o + i * m + j, none⟩ = some (f g j) := fun i hi => by
    obtain ⟨g, h1, h2⟩ := each i hi
    refine ⟨g, h1, fun j hj => ?_⟩
    have := h2 j hj
    rw [add_plain, add_plain] at this
    exact this
  refine ⟨fun i => if hi : i < len then (each' i hi).choose else dflt, Or.inr ⟨b, o, cap, rfl, fun i hi j hj => ?_⟩, fun i hi => ?_⟩
  · have := (each' i hi).choose_spec.2 j hj
    simp only [hi, dif_pos]
    exact this
  · have := (each' i hi).choose_spec.1
    simp only [hi, dif_pos]
    exact this

end Go.Proofs.Ytdmjfphmgpkfcaa
