/- A field and its parts: both packages alike; lists of numbers opened. -/
import Derived.Test.YtgidoceflkdklaaPi
import Derived.Test.YtgidoceflkdklaaOpenZs
import Derived.Deep.Matrix
namespace Go.Proofs.Ytgidoceflkdklaa
open Go.ChangeShapes Go.WideShapes Go.ChangeAt Go.RowKit Go.Joins Go.Deep Fl
set_option linter.unusedVariables false
set_option linter.unusedSimpArgs false
theorem rd_form {w : World} {v : Value} {n : Nat} {f : Nat → Int} (h : RdRow w v n f) : ∃ ao cap, v = .slice ao n cap := by
  rcases h with ⟨ao, cap, rfl, rfl⟩ | ⟨b, off, cap, rfl, _⟩
  · exact ⟨_, _, rfl⟩
  · exact ⟨_, _, rfl⟩
theorem phase_both (n m : Nat) (f : Nat → Nat → Nat) (o : Nat → Option Nat × Option Nat) (p : Nat → Int) (hn : n ≤ 1000000000000) (hm : m ≤ 1000000000000) (hf : ∀ i, i < n → Zc (f i 0) (f i 1) (o i)) :
    ∃ (c : Int) (N : Nat) (O : Nat → Option Nat × Option Nat), N ≤ 1024 ∧ (∀ W v v', RdM W v n 2 f → RdRow W v' m p → ZX 30 #[v, v'] W c N O) ∧ (∀ W v v', RdM W v n 2 f → RdRow W v' m p → ZX 32 #[v, v'] W c N O) := by
  by_cases h : phf n m = 0
  · have hw : Wv.wf n = 0 := by
      unfold phf at h
      by_cases e : Wv.wf n = 0
      · exact e
      · rw [if_neg e] at h; exact h
    have hnm : n = m := by
      unfold phf at h
      rw [if_pos hw] at h
      by_cases e : n = m
      · exact e
      · rw [if_neg e] at h; omega
    subst hnm
    have hle := Wv.wf_le hw
    refine ⟨0, n, phC o p, by omega, fun W v v' h1 h2 => ?_, fun W v v' h1 h2 => ?_⟩
    all_goals
      rcases h1 with ⟨_, _, _, e⟩ | ⟨b, off, cap, rfl, hc⟩
      · omega
      rcases h2 with ⟨_, _, _, e⟩ | ⟨b', off', cap', rfl, hc'⟩
      · omega
    · exact sPhase_good b off cap b' off' cap' n f o p W hw hc hf hc'
    · exact iPhase_good b off cap b' off' cap' n f o p W hw hc hf hc'
  · refine ⟨phf n m, 0, fun _ => (none, none), by omega, fun W v v' h1 h2 => ?_, fun W v v' h1 h2 => ?_⟩
    · obtain ⟨ao, cap, rfl⟩ := h1.form
      obtain ⟨bo, cap', rfl⟩ := rd_form h2
      exact sPhase_bad ao bo n m cap cap' hn hm h W
    · obtain ⟨ao, cap, rfl⟩ := h1.form
      obtain ⟨bo, cap', rfl⟩ := rd_form h2
      exact iPhase_bad ao bo n m cap cap' hn hm h W
theorem cells2 : Try.prog.cellsOf 2 = 1 := by kernel_rfl
theorem maxLen_eq2 : maxLen = 9223372036854775807 := rfl
set_option maxRecDepth 100000 in
theorem open_irow {H : Type} {enc : TypeId × Value → H} {W : World} {base : Nat} {v : Value} {d : DataW H} {p : List MemPlace} (hv : Value.okWide Try.prog W .any base 26 v)
    (h : DataW.Trod enc Try.prog W 0 (fun _ => true) true 26 v d p) : ∃ (n : Nat) (f : Nat → Int), RdRow W v n f ∧ n ≤ 9223372036854775807 ∧ True := by
  obtain ⟨a0, len, cap, rfl⟩ := okWide_slice Try.underlying26 hv
  obtain ⟨fuel, hf⟩ := h
  rcases open_ints Try.underlying26 Try.underlying2 cells2 hf with ⟨hcs0, _⟩ | ⟨a, len', cap', zs, hcs0, _, hl, hm, hz, _, hc, _⟩
  · simp [Value.cells] at hcs0
    obtain ⟨rfl, rfl, rfl⟩ := hcs0
    exact ⟨0, fun _ => 0, Or.inl ⟨_, _, rfl, rfl⟩, by omega, trivial⟩
  simp [Value.cells] at hcs0
  obtain ⟨rfl, rfl, rfl⟩ := hcs0
  rw [maxLen_eq2] at hm
  simp only [if_true] at hz
  by_cases h0 : len = 0
  · subst h0
    exact ⟨0, fun _ => 0, Or.inl ⟨_, _, rfl, rfl⟩, by omega, trivial⟩
  obtain ⟨b, o, spot⟩ := a
  have hspot : spot = none := by simpa [Addr.add] using World.cell?_spot (hc 0 (by omega))
  subst hspot
  exact ⟨len, fun i => zs.getD i 0, Or.inr ⟨b, o, cap, rfl, fun i hi => by
    have e : (⟨b, o, none⟩ : Addr).add i = ⟨b, o + i, none⟩ := by
      unfold Addr.add
      split
      · rename_i h; subst h; rfl
      · simp
    rw [← e]; exact hc i (by omega)⟩, by omega, trivial⟩
end Go.Proofs.Ytgidoceflkdklaa
