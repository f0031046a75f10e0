/- How a slice of floats that comes in is opened. -/
import Derived.Test.YtcmgafgboepllaaOpen
import Derived.Test.YtcmgafgboepllaaMem
import Derived.Test.YtcmgafgboepllaaRy
import Derived.Deep.Matrix
namespace Go.Proofs.Ytcmgafgboepllaa
open Go.ChangeShapes Go.WideShapes Go.ChangeAt Go.RowKit Go.Joins Go.Deep
set_option maxRecDepth 100000 in
theorem cells24 : Try.prog.cellsOf 24 = 1 := by kernel_rfl
set_option maxRecDepth 100000 in
theorem maxLen_eq : maxLen = 9223372036854775807 := rfl
set_option maxRecDepth 100000 in
theorem trod_float {H : Type} {enc : TypeId × Value → H} {P : Program} {w : World} {base : Nat} {spare : Nat → Bool} {held : Bool} {t : TypeId} {fuel : Nat} {cs : List Value} {x : DataW H × List MemPlace} {k : FloatKind}
    (ht : P.underlying t = some (.float k)) (h : DataW.trod enc P w base spare held fuel t cs = some x) : ∃ n, cs = [.float k n] ∧ (Lit.float k n).wf = true := by
  cases fuel with
  | zero => simp [DataW.trod] at h
  | succ n =>
    unfold DataW.trod at h
    rw [ht] at h
    split at h <;> simp_all
set_option maxRecDepth 100000 in
theorem open_frow {H : Type} {enc : TypeId × Value → H} {W : World} {base : Nat} {v : Value} {d : DataW H} {p : List MemPlace} (hv : Value.okWide Try.prog W .any base 34 v)
    (h : DataW.Trod enc Try.prog W 0 (fun _ => true) true 34 v d p) : ∃ (n : Nat) (f : Nat → Nat), RdF W v n f ∧ n ≤ 9223372036854775807 ∧ ∀ i, i < n → f i < 18446744073709551616 := by
  obtain ⟨a0, len, cap, rfl⟩ := okWide_slice Try.underlying34 hv
  obtain ⟨fuel, hf⟩ := h
  rcases DataW.trod_slice Try.underlying34 hf with ⟨hcs0, _⟩ | ⟨a, len', cap', elems, rest, n, _, hcs0, _, _, hl, hm, hlen, hel, _, _⟩
  · simp [Value.cells] at hcs0
    obtain ⟨rfl, rfl, rfl⟩ := hcs0
    exact ⟨0, fun _ => 0, Or.inl ⟨_, _, rfl, rfl⟩, by omega, fun i hi => by omega⟩
  simp [Value.cells] at hcs0
  obtain ⟨rfl, rfl, rfl⟩ := hcs0
  rw [maxLen_eq] at hm
  by_cases h0 : len = 0
  · subst h0
    exact ⟨0, fun _ => 0, Or.inl ⟨_, _, rfl, rfl⟩, by omega, fun i hi => by omega⟩
  have each : ∀ i, i < len → ∃ b, W.cell? (a.add i) = some (.float .f64 b) ∧ (Lit.float .f64 b).wf = true := by
    intro i hi
    have h1 := hel i hi
    rw [cells24, Nat.mul_one] at h1
    obtain ⟨y, hy⟩ : ∃ y, elems[i]? = some y := ⟨elems[i]'(by omega), List.getElem?_eq_getElem (by omega)⟩
    rw [hy, Option.bind_eq_some_iff] at h1
    obtain ⟨cs', hcs, hy'⟩ := h1
    obtain ⟨b, rfl, hw⟩ := trod_float Try.underlying24 hy'
    exact ⟨b, cell_of_cells?_one hcs, hw⟩
  obtain ⟨b, o, spot⟩ := a
  have hspot : spot = none := by
    obtain ⟨x, hx, _⟩ := each 0 (by omega)
    simpa [Addr.add] using World.cell?_spot hx
  subst hspot
  refine ⟨len, fun i => if hi : i < len then (each i hi).choose else 0, Or.inr ⟨b, o, cap, rfl, fun i hi => ?_⟩, by omega, fun i hi => ?_⟩
  · simp only [hi, dite_true]
    rw [← add_plain]
    exact (each i hi).choose_spec.1
  · simp only [hi, dite_true]
    exact f64_lt (each i hi).choose_spec.2
set_option maxRecDepth 100000 in
theorem RdF.form {w : World} {v : Value} {n : Nat} {f : Nat → Nat} (h : RdF w v n f) : ∃ ao cap, v = .slice ao n cap := by
  rcases h with ⟨ao, cap, rfl, rfl⟩ | ⟨b, off, cap, rfl, _⟩
  · exact ⟨ao, cap, rfl⟩
  · exact ⟨_, cap, rfl⟩
set_option maxRecDepth 100000 in
theorem open_flt {H : Type} {enc : TypeId × Value → H} {W : World} {base : Nat} {v : Value} {d : DataW H} {p : List MemPlace} (hv : Value.okWide Try.prog W .any base 24 v)
    (h : DataW.Trod enc Try.prog W 0 (fun _ => true) true 24 v d p) : ∃ x, v = .float .f64 x ∧ Fc x (Fl.cl x) := by
  obtain ⟨x, rfl, _, _, hx⟩ := open_float Try.underlying24 hv h
  exact ⟨x, rfl, fc_own (f64_lt hx)⟩
end Go.Proofs.Ytcmgafgboepllaa
