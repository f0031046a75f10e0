/- Arrays of complex numbers compared: what the comparison with noughts tells. -/
import Derived.Test.YtgidoceflkdklaaTk
import Derived.Laws.StructEq
namespace Go.Proofs.Ytgidoceflkdklaa
open Go.RowKit Fl
set_option linter.unusedVariables false
set_option linter.unusedSimpArgs false
/-- The elements one by one, till one differs. -/
theorem run_equalIn_array {P : Program} (d : Nat) (t e : TypeId) (n sz : Nat) (ht : P.underlying t = some (.array n e)) (hsz : ∀ w, (sizeOf e).run P w = .ok sz w) (xs ys : Array Value) (q : Nat → Bool)
    (hel : ∀ i, i < n → ∃ a b, (∀ w, (part e xs (i * sz)).run P w = .ok a w) ∧ (∀ w, (part e ys (i * sz)).run P w = .ok b w) ∧ ∀ w, (Op.equalIn d e a b).run P w = .ok (q i) w) (w : World) :
    (Op.equalIn (d + 1) t (.agg xs) (.agg ys)).run P w = .ok ((List.range n).all q) w := by
  rw [List.range_eq_range', Op.equalIn]
  simp only [Sem.run_bind, run_underlying ht, Result.andThen_ok, hsz, Std.Legacy.Range.forIn_eq_forIn_range', Std.Legacy.Range.size, Nat.sub_zero, Nat.add_sub_cancel, Nat.div_one]
  have hl : ∀ i ∈ List.range' 0 n 1, i < n := fun i hi => by simpa using (List.mem_range'_1.1 hi).2
  generalize List.range' 0 n 1 = l at hl ⊢
  induction l with
  | nil => simp
  | cons i l ih =>
    obtain ⟨a, b, pa, pb, pe⟩ := hel i (hl i (by simp))
    simp only [List.forIn_cons, Sem.run_bind, pa, pb, pe, Result.andThen_ok, List.all_cons]
    cases hq : q i
    · simp
    · simp only [Bool.not_true, Bool.false_eq_true, if_false, Sem.run_pure, Result.andThen_ok, Bool.true_and]
      exact ih fun j hj => hl j (by simp [hj])
theorem size28 (w : World) : (sizeOf 75).run Try.prog w = .ok 2 w := by
  have h : (Try.prog.info? 75).map (·.size) = some 2 := by kernel_rfl
  obtain ⟨i, hi, hs⟩ := Option.map_eq_some_iff.1 h
  simp [sizeOf, typeInfo, hi, hs]
theorem part_pair {c : Array Value} {on : Nat → Bool} (h : Rts c on) {i : Nat} (hi : i < 20) (w : World) : (part 75 c (i * 2)).run Try.prog w = .ok (Zv (tabF on i 0) (tabF on i 1)) w := by
  have h0 := h.cell i hi 0 (by omega)
  have h1 := h.cell i hi 1 (by omega)
  have e : c.extract (i * 2) (i * 2 + 2) = #[.float .f64 (tabF on i 0), .float .f64 (tabF on i 1)] := by
    apply Array.ext
    · simp; have := h.size; omega
    · intro j hj1 hj2
      simp at hj2
      rw [Array.getElem_extract]
      match j, hj2 with
      | 0, _ =>
        rw [Nat.add_zero] at h0
        have := (Array.getElem?_eq_some_iff.1 h0).2
        simpa using this
      | 1, _ =>
        have := (Array.getElem?_eq_some_iff.1 h1).2
        simpa using this
  simp [part, isAgg, run_underlying Try.underlying75, size28, e]
end Go.Proofs.Ytgidoceflkdklaa
