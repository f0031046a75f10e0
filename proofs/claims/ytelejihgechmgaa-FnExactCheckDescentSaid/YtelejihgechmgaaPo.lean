/- How a path that comes in is opened. -/
import Derived.Test.YtelejihgechmgaaAk
import Derived.Test.YtelejihgechmgaaPt
namespace Go.Proofs.Ytelejihgechmgaa
open Go.ChangeShapes Go.WideShapes Go.ChangeAt Go.RowKit Go.Joins Go.Deep
set_option linter.unusedVariables false
set_option linter.unusedSimpArgs false
set_option maxRecDepth 100000 in
theorem trod_mat {H : Type} {enc : TypeId × Value → H} {W : World} {fuel : Nat} {c : Value} {x : DataW H × List MemPlace}
    (hf : DataW.trod enc Try.prog W 0 (fun _ => true) true fuel 53 [c] = some x) : ∃ (n : Nat) (L : Nat → Nat) (F : Rm.Mx), RdMat W c n L F ∧ n ≤ 9223372036854775807 ∧ ∀ i, i < n → L i ≤ 9223372036854775807 := by
  rcases open_int_rows Try.underlying53 Try.underlying24 Try.underlying2 cells38 cells2 hf with ⟨hcs0, _⟩ | ⟨a, len', cap', A, L, C, Z, hcs0, _, hl, hm, _, hrows⟩
  · simp at hcs0
    subst hcs0
    exact ⟨0, fun _ => 0, fun _ _ => 0, Or.inl ⟨_, _, rfl, rfl⟩, by omega, fun i hi => by omega⟩
  simp at hcs0
  subst hcs0
  rw [maxLen_eq] at hm
  by_cases h0 : len' = 0
  · subst h0
    exact ⟨0, fun _ => 0, fun _ _ => 0, Or.inl ⟨_, _, rfl, rfl⟩, by omega, fun i hi => by omega⟩
  obtain ⟨bm, om, spot⟩ := a
  have hspot : spot = none := by simpa [Addr.add] using World.cell?_spot (hrows 0 (by omega)).1
  subst hspot
  refine ⟨len', L, fun r c => (Z r).getD c 0, Or.inr ⟨bm, om, cap', fun r => .slice (A r) (L r) (C r), rfl, fun r hr => ⟨?_, ?_⟩⟩, by omega, fun r hr => ?_⟩
  · rw [← add_plain]; exact (hrows r (by omega)).1
  · obtain ⟨_, h1, _, h2, _, h3, h4⟩ := hrows r (by omega)
    by_cases hL0 : L r = 0
    · exact Or.inl ⟨A r, C r, by show Value.slice (A r) (L r) (C r) = _; rw [hL0], hL0⟩
    · cases hA : A r with
      | none => have := h3 hA; omega
      | some a' =>
        obtain ⟨_, hc⟩ := h4 a' hA
        obtain ⟨b', o', sp⟩ := a'
        have hs : sp = none := by simpa [Addr.add] using World.cell?_spot (hc 0 (by omega))
        subst hs
        exact Or.inr ⟨b', o', C r, by show Value.slice (A r) (L r) (C r) = _; rw [hA], fun i hi => by rw [← add_plain]; exact hc i (by omega)⟩
  · obtain ⟨_, h1, h5, _⟩ := hrows r (by omega)
    rw [maxLen_eq] at h5
    omega
set_option maxRecDepth 100000 in
theorem open_path {H : Type} {enc : TypeId × Value → H} {W : World} {base : Nat} {v : Value} {d : DataW H} {p : List MemPlace} (hv : Value.okWide Try.prog W .any base 62 v)
    (h : DataW.Trod enc Try.prog W 0 (fun _ => true) true 62 v d p) : ∃ (c : Int) (ao mo : Option Addr) (n cap nm mc : Nat) (Ls : Nat → Nat) (F : Rm.Mx) (M : Nat → Int), v = .agg #[.int .i64 c, .slice ao n cap, .slice mo nm mc] ∧ -9223372036854775808 ≤ c ∧ c ≤ 9223372036854775807 ∧ RdP W (.slice ao n cap) (.slice mo nm mc) n Ls F nm M ∧ n ≤ 9223372036854775807 ∧ (∀ i, i < n → Ls i ≤ 9223372036854775807) ∧ nm ≤ 9223372036854775807 := by
  obtain ⟨cs, rfl, hsz⟩ := okWide_struct Try.underlying62 hv
  obtain ⟨c0, c1, c2, rfl⟩ := array3 (hsz.trans cells62)
  obtain ⟨fuel, hf⟩ := h
  have hf' : DataW.trod enc Try.prog W 0 (fun _ => true) true fuel 62 [c0, c1, c2] = some (d, p) := by simpa [Value.cells] using hf
  obtain ⟨xs, m, _, _, _, hlen, hx⟩ := DataW.trod_struct Try.underlying62 hf'
  have hl : xs.length = 3 := hlen
  have g0 := hx 0 _ rfl
  have g1 := hx 1 _ rfl
  have g2 := hx 2 _ rfl
  rw [List.getElem?_eq_getElem (by omega)] at g0 g1 g2
  change DataW.trod enc Try.prog W 0 (fun _ => true) true m 2 (([c0, c1, c2].drop 0).take (Try.prog.cellsOf 2)) = _ at g0
  change DataW.trod enc Try.prog W 0 (fun _ => true) true m 53 (([c0, c1, c2].drop 1).take (Try.prog.cellsOf 53)) = _ at g1
  change DataW.trod enc Try.prog W 0 (fun _ => true) true m 24 (([c0, c1, c2].drop 2).take (Try.prog.cellsOf 24)) = _ at g2
  rw [cells2] at g0
  rw [cells53] at g1
  rw [cells38] at g2
  obtain ⟨c, e0, _, b0⟩ := DataW.trod_int Try.underlying2 g0
  simp at e0
  obtain ⟨n, Ls, F, h1, h2, h3⟩ := trod_mat (c := c1) g1
  obtain ⟨nm, M, k1, k2⟩ := trod_row (c := c2) g2
  obtain ⟨ao, cap, rfl⟩ := h1.shape
  obtain ⟨mo, mc, rfl⟩ := k1.shape
  exact ⟨c, ao, mo, n, cap, nm, mc, Ls, F, M, by rw [e0], i64_lo b0, i64_hi b0, ⟨h1, k1⟩, h2, h3, k2⟩
end Go.Proofs.Ytelejihgechmgaa
