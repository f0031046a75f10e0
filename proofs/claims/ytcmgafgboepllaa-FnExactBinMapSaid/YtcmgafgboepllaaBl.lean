/- Maps put together: both packages. -/
import Derived.Test.YtcmgafgboepllaaBs
import Derived.Test.YtcmgafgboepllaaBi
import Derived.Test.YtcmgafgboepllaaOpen
import Derived.Deep.Matrix
namespace Go.Proofs.Ytcmgafgboepllaa
open Go.ChangeShapes Go.WideShapes Go.ChangeAt Go.RowKit Go.Joins Go.Deep Fl
set_option linter.unusedVariables false
set_option linter.unusedSimpArgs false
theorem rd_form {w : World} {v : Value} {n : Nat} {f : Nat → Int} (h : RdRow w v n f) : ∃ ao cap, v = .slice ao n cap := by
  rcases h with ⟨ao, cap, rfl, rfl⟩ | ⟨b, off, cap, rfl, _⟩
  · exact ⟨_, _, rfl⟩
  · exact ⟨_, _, rfl⟩
theorem bin_both (n : Nat) (s b : Int) (f : Nat → Int) (hn : n ≤ 1000000000000) : ∃ (c : Int) (N : Nat) (F : Nat → Int), N ≤ 400 ∧ (∀ W v, RdRow W v n f → FX 49 #[v, .int .i64 s, .int .i64 b] W c N F 0) ∧ (∀ W v, RdRow W v n f → FX 51 #[v, .int .i64 s, .int .i64 b] W c N F 0) := by
  by_cases h : Gd n s b
  · obtain ⟨S, rfl⟩ := Int.eq_ofNat_of_zero_le (show 0 ≤ s by have := h.s1; omega)
    obtain ⟨B, rfl⟩ := Int.eq_ofNat_of_zero_le (show 0 ≤ b by have := h.b1; omega)
    have h1 := h.s1
    have h2 := h.s2
    have h3 := h.b1
    have h4 := h.b2
    have h5 : n = S * S := by have := h.sq; rw [← Int.natCast_mul] at this; omega
    have h6 : S % B = 0 := by have := h.dv; rw [← Int.ofNat_tmod] at this; omega
    have hpos : 0 < n := by rw [h5]; exact Nat.mul_pos (by omega) (by omega)
    refine ⟨rc f (S * S), if rc f (S * S) = 0 then S / B * (S / B) else 0, bst f S B (S * S), ?_, fun W v hv => ?_, fun W v hv => ?_⟩
    · split
      · exact sq_le (Nat.le_trans (Nat.div_le_self S B) (by omega))
      · omega
    · rcases hv with ⟨ao, cap, rfl, e⟩ | ⟨bi, off, cap, rfl, hc⟩
      · omega
      · rw [h5] at hc ⊢
        exact sBin_good bi off cap S B f W (by omega) (by omega) (by omega) (by omega) h6 hc
    · rcases hv with ⟨ao, cap, rfl, e⟩ | ⟨bi, off, cap, rfl, hc⟩
      · omega
      · rw [h5] at hc ⊢
        exact iBin_good bi off cap S B f W (by omega) (by omega) (by omega) (by omega) h6 hc
  · refine ⟨1, 0, fun _ => 0, by omega, fun W v hv => ?_, fun W v hv => ?_⟩
    · obtain ⟨ao, cap, rfl⟩ := rd_form hv
      exact (sBin_form ao n cap s b hn h W).mono fun e w' ⟨h1, h2⟩ => ⟨_, h1, Or.inl ⟨rfl, rfl⟩, h2⟩
    · obtain ⟨ao, cap, rfl⟩ := rd_form hv
      exact (iBin_form ao n cap s b hn h W).mono fun e w' ⟨h1, h2⟩ => ⟨_, h1, Or.inl ⟨rfl, rfl⟩, h2⟩
theorem cells2 : Try.prog.cellsOf 2 = 1 := by kernel_rfl
theorem maxLen_eq2 : maxLen = 9223372036854775807 := rfl
set_option maxRecDepth 100000 in
theorem open_irow {H : Type} {enc : TypeId × Value → H} {W : World} {base : Nat} {v : Value} {d : DataW H} {p : List MemPlace} (hv : Value.okWide Try.prog W .any base 64 v)
    (h : DataW.Trod enc Try.prog W 0 (fun _ => true) true 64 v d p) : ∃ (n : Nat) (f : Nat → Int), RdRow W v n f ∧ n ≤ 9223372036854775807 ∧ True := by
  obtain ⟨a0, len, cap, rfl⟩ := okWide_slice Try.underlying64 hv
  obtain ⟨fuel, hf⟩ := h
  rcases open_ints Try.underlying64 Try.underlying2 cells2 hf with ⟨hcs0, _⟩ | ⟨a, len', cap', zs, hcs0, _, hl, hm, hz, _, hc, _⟩
  · simp [Value.cells] at hcs0
    obtain ⟨rfl, rfl, rfl⟩ := hcs0
    exact ⟨0, fun _ => 0, Or.inl ⟨_, _, rfl, rfl⟩, by omega, trivial⟩
  simp [Value.cells] at hcs0
  obtain ⟨rfl, rfl, rfl⟩ := hcs0
  rw [maxLen_eq2] at hm
  simp only [if_true] at hz
  by_cases h0 : len = 0
  · subst h0
    exact ⟨0, fun _ => 0, Or.inl ⟨_, _, rfl, rfl⟩, by omega, trivial⟩
  obtain ⟨b, o, spot⟩ := a
  have hspot : spot = none := by simpa [Addr.add] using World.cell?_spot (hc 0 (by omega))
  subst hspot
  exact ⟨len, fun i => zs.getD i 0, Or.inr ⟨b, o, cap, rfl, fun i hi => by
    have e : (⟨b, o, none⟩ : Addr).add i = ⟨b, o + i, none⟩ := by
      unfold Addr.add
      split
      · rename_i h; subst h; rfl
      · simp
    rw [← e]; exact hc i (by omega)⟩, by omega, trivial⟩
end Go.Proofs.Ytcmgafgboepllaa
