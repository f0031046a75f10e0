/- Books gone through, in whatever order: laws. -/
import Derived.Test.YtnkjieindcdimaaIe
import Derived.Maps.RangeWalk
namespace Go.Proofs.Ytnkjieindcdimaa
open Go.RowKit Go.Maps
set_option linter.unusedVariables false
set_option linter.unusedSimpArgs false
set_option maxRecDepth 100000 in
theorem key115_inv {v : Value} {l : Lit} (h : keyOf Try.prog 115 v = some l) : ∃ a b, v = .agg #[.int .i64 a, .int .i64 b] ∧ W64 a ∧ W64 b ∧ l = kf a b := by
  obtain ⟨m, hm⟩ := size115
  have h0 := h
  unfold keyOf at h
  simp only [Try.underlying115] at h
  split at h
  · rename_i hf
    simp only [Bool.and_eq_true] at hf
    have hform := hf.2
    simp only [Option.map_eq_some_iff] at h
    obtain ⟨ls, hls, _⟩ := h
    rw [hm] at hls
    unfold Program.keyLits at hls
    simp only [Try.underlying115] at hls
    have hv : ∃ cs : Array Value, v = .agg cs ∧ cs.size = 2 := by
      cases v with
      | agg cs =>
        refine ⟨cs, rfl, ?_⟩
        simpa [Value.formed, Try.underlying115, cells115] using hform
      | _ => simp [Value.formed, Try.underlying115] at hform
    obtain ⟨cs, rfl, hsz⟩ := hv
    match cs, hsz with
    | ⟨[c0, c1]⟩, _ =>
      simp only [Value.cells] at hls
      simp [cells115, cellsOf2] at hls
      rw [Option.bind_eq_some_iff] at hls
      obtain ⟨z0, hz0, hr⟩ := hls
      obtain ⟨z1, hz1⟩ : ∃ z, Program.keyLits Try.prog (m + 1) 2 [c1] = some z := by
        cases hB : Program.keyLits Try.prog (m + 1) 2 [c1] with
        | none => simp [hB] at hr
        | some z => exact ⟨z, rfl⟩
      have inv : ∀ {d : Nat} {c : Value} {z : List Lit}, Program.keyLits Try.prog d 2 [c] = some z → ∃ a, c = .int .i64 a ∧ (Lit.int .i64 a).wf = true := by
        intro d c z hz
        cases d with
        | zero => simp [Program.keyLits] at hz
        | succ d =>
          unfold Program.keyLits at hz
          simp only [Try.underlying2] at hz
          cases c <;> simp at hz
          rename_i q a
          obtain ⟨⟨rfl, hw⟩, _⟩ := hz
          exact ⟨a, rfl, hw⟩
      obtain ⟨a, rfl, wa⟩ := inv hz0
      obtain ⟨b, rfl, wb⟩ := inv hz1
      have ha : W64 a := ⟨i64_lo wa, i64_hi wa⟩
      have hb : W64 b := ⟨i64_lo wb, i64_hi wb⟩
      refine ⟨a, b, rfl, ha, hb, ?_⟩
      have := key115 ha hb
      rw [h0] at this
      simpa using this
  · cases h
end Go.Proofs.Ytnkjieindcdimaa
