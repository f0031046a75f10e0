/- How slices of numbers and slices of slices that come in are opened. -/
import Derived.Test.YtelejihgechmgaaOpen
import Derived.Test.YtelejihgechmgaaToss
import Derived.Deep.Matrix
namespace Go.Proofs.Ytelejihgechmgaa
open Go.ChangeShapes Go.WideShapes Go.ChangeAt Go.RowKit Go.Joins Go.Deep
theorem cells38 : Try.prog.cellsOf 24 = 1 := by kernel_rfl
theorem cells2 : Try.prog.cellsOf 2 = 1 := by kernel_rfl
theorem maxLen_eq : maxLen = 9223372036854775807 := rfl
set_option maxRecDepth 100000 in
theorem open_mat {H : Type} {enc : TypeId × Value → H} {W : World} {base : Nat} {v : Value} {d : DataW H} {p : List MemPlace} (hv : Value.okWide Try.prog W .any base 53 v)
    (h : DataW.Trod enc Try.prog W 0 (fun _ => true) true 53 v d p) : ∃ (n : Nat) (L : Nat → Nat) (F : Rm.Mx), RdMat W v n L F ∧ n ≤ 9223372036854775807 ∧ ∀ i, i < n → L i ≤ 9223372036854775807 := by
  obtain ⟨a0, len, cap, rfl⟩ := okWide_slice Try.underlying53 hv
  obtain ⟨fuel, hf⟩ := h
  rcases open_int_rows Try.underlying53 Try.underlying24 Try.underlying2 cells38 cells2 hf with ⟨hcs0, _⟩ | ⟨a, len', cap', A, L, C, Z, hcs0, _, hl, hm, _, hrows⟩
  · simp [Value.cells] at hcs0
    obtain ⟨rfl, rfl, rfl⟩ := hcs0
    exact ⟨0, fun _ => 0, fun _ _ => 0, Or.inl ⟨_, _, rfl, rfl⟩, by omega, fun i hi => by omega⟩
  simp [Value.cells] at hcs0
  obtain ⟨rfl, rfl, rfl⟩ := hcs0
  rw [maxLen_eq] at hm
  by_cases h0 : len = 0
  · subst h0
    exact ⟨0, fun _ => 0, fun _ _ => 0, Or.inl ⟨_, _, rfl, rfl⟩, by omega, fun i hi => by omega⟩
  obtain ⟨bm, om, spot⟩ := a
  have hspot : spot = none := by simpa [Addr.add] using World.cell?_spot (hrows 0 (by omega)).1
  subst hspot
  refine ⟨len, L, fun r c => (Z r).getD c 0, Or.inr ⟨bm, om, cap, fun r => .slice (A r) (L r) (C r), rfl, fun r hr => ⟨?_, ?_⟩⟩, by omega, fun r hr => ?_⟩
  · rw [← add_plain]; exact (hrows r (by omega)).1
  · obtain ⟨_, h1, _, h2, _, h3, h4⟩ := hrows r (by omega)
    by_cases hL0 : L r = 0
    · exact Or.inl ⟨A r, C r, by show Value.slice (A r) (L r) (C r) = _; rw [hL0], hL0⟩
    · cases hA : A r with
      | none => have := h3 hA; omega
      | some a' =>
        obtain ⟨_, hc⟩ := h4 a' hA
        obtain ⟨b', o', sp⟩ := a'
        have hs : sp = none := by simpa [Addr.add] using World.cell?_spot (hc 0 (by omega))
        subst hs
        exact Or.inr ⟨b', o', C r, by show Value.slice (A r) (L r) (C r) = _; rw [hA], fun i hi => by rw [← add_plain]; exact hc i (by omega)⟩
  · obtain ⟨_, h1, h5, _⟩ := hrows r (by omega)
    rw [maxLen_eq] at h5
    omega
end Go.Proofs.Ytelejihgechmgaa
