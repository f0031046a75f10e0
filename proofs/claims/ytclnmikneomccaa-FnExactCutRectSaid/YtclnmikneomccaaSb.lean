/- What lists of structs share. -/
import Derived.Test.YtclnmikneomccaaArgrow
import Derived.Test.YtclnmikneomccaaVr
import Derived.Test.YtclnmikneomccaaAp
import Derived.Maps.AppendAt
namespace Go.Proofs.Ytclnmikneomccaa
open Go.ChangeShapes Go.WideShapes Go.ChangeAt Go.RowKit Go.Joins Go.Deep
set_option linter.unusedVariables false
set_option linter.unusedSimpArgs false
theorem rdv_of {α : Type} {W : World} {a : Addr} {len cap m : Nat} (hm : 0 < m) (h0 : 0 < len) (dflt : α) (f : α → Nat → Value) (Q : α → Prop)
    (each : ∀ i, i < len → ∃ g : α, Q g ∧ ∀ j, j < m → W.cell? ((a.add (i * m)).add j) = some (f g j)) :
    ∃ G : Nat → α, RdV W (.slice (some a) len cap) len m (fun i j => f (G i) j) ∧ ∀ i, i < len → Q (G i) := by
  obtain ⟨b, o, spot⟩ := a
  have hspot : spot = none := by
    obtain ⟨g, _, h1⟩ := each 0 h0
    simpa [Addr.add] using World.cell?_spot (h1 0 hm)
  subst hspot
  have each' : ∀ i, i < len → ∃ g : α, Q g ∧ ∀ j, j < m → W.cell? ⟨b, o + i * m + j, none⟩ = some (f g j) := fun i hi => by
    obtain ⟨g, h1, h2⟩ := each i hi
    refine ⟨g, h1, fun j hj => ?_⟩
    have := h2 j hj
    rw [add_plain, add_plain] at this
    exact this
  refine ⟨fun i => if hi : i < len then (each' i hi).choose else dflt, Or.inr ⟨b, o, cap, rfl, fun i hi j hj => ?_⟩, fun i hi => ?_⟩
  · have := (each' i hi).choose_spec.2 j hj
    simp only [hi, dif_pos]
    exact this
  · have := (each' i hi).choose_spec.1
    simp only [hi, dif_pos]
    exact this
theorem flat_congr {F G : Nat → List Value} : ∀ {n : Nat}, (∀ i, i < n → F i = G i) → flat F n = flat G n
  | 0, _ => rfl
  | n + 1, h => by rw [flat_succ, flat_succ, flat_congr (fun i hi => h i (by omega)), h n (by omega)]
theorem flat_add {F G : Nat → List Value} (n : Nat) : ∀ m, flat (fun i => if i < n then F i else G (i - n)) (n + m) = flat F n ++ flat G m
  | 0 => by
    rw [Nat.add_zero, flat_zero, List.append_nil]
    exact flat_congr fun i hi => by simp [hi]
  | m + 1 => by
    rw [← Nat.add_assoc, flat_succ, flat_add n m, flat_succ, List.append_assoc]
    congr 2
    have : ¬ n + m < n := by omega
    simp [this]
end Go.Proofs.Ytclnmikneomccaa
