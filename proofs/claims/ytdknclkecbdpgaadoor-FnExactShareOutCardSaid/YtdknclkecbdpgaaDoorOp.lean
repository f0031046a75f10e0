/- How bytes, numbers and lists that come in are opened; the handle of the type error as the rows lay it. -/
import Derived.Test.YtdknclkecbdpgaaDoorRows
import Derived.Test.YtdknclkecbdpgaaDoorCk
import Derived.ProofKit
import Derived.OpenShut
import Derived.ChangeOld
import Derived.Below
import Derived.Lib.SmallJoins
import Derived.Deep.Matrix
import Derived.OpenVars
import Derived.LaidMore
import Derived.LaidLaws
import Derived.LaidHandle
import Derived.Stop.Joined
import Derived.Stop.LaidErr
import Derived.SevenTiedAt
import Derived.MakeChecks
namespace Go.Proofs.YtdknclkecbdpgaaDoor
open Go.ChangeShapes Go.WideShapes Go.ChangeAt Go.RowKit Go.Joins Go.Deep
set_option linter.unusedVariables false
theorem own : ownKnob Tryd.prog.godebug = none := by kernel_rfl
theorem laidOut : laidOutB Tryd.prog = true := by kernel_rfl
theorem maxLen_eq : maxLen = 9223372036854775807 := rfl
theorem cells2 : Tryd.prog.cellsOf 2 = 1 := by kernel_rfl
theorem cells5 : Tryd.prog.cellsOf 5 = 1 := by kernel_rfl
set_option maxRecDepth 100000 in
theorem open_bytes {H : Type} {enc : TypeId × Value → H} {W : World} {base : Nat} {v : Value} {d : DataW H} {p : List MemPlace} (hv : Value.okWide Tryd.prog W .any base 22 v)
    (h : DataW.Trod enc Tryd.prog W 0 (fun _ => true) true 22 v d p) : ∃ (n : Nat) (g : Nat → Int), RdB W v n g ∧ n ≤ 9223372036854775807 ∧ ∀ i, i < n → 0 ≤ g i ∧ g i < 256 := by
  obtain ⟨a0, len, cap, rfl⟩ := okWide_slice Tryd.underlying22 hv
  obtain ⟨fuel, hf⟩ := h
  rcases open_ints Tryd.underlying22 Tryd.underlying5 cells5 hf with ⟨hcs0, _⟩ | ⟨a, len', cap', zs, hcs0, _, hl, hm, hz, _, hc, hw⟩
  · simp [Value.cells] at hcs0
    obtain ⟨rfl, rfl, rfl⟩ := hcs0
    exact ⟨0, fun _ => 0, Or.inl ⟨_, _, rfl, rfl⟩, by omega, fun i hi => by omega⟩
  simp [Value.cells] at hcs0
  obtain ⟨rfl, rfl, rfl⟩ := hcs0
  rw [maxLen_eq] at hm
  simp only [if_true] at hz
  by_cases h0 : len = 0
  · subst h0
    exact ⟨0, fun _ => 0, Or.inl ⟨_, _, rfl, rfl⟩, by omega, fun i hi => by omega⟩
  obtain ⟨b, o, spot⟩ := a
  have hspot : spot = none := by simpa [Addr.add] using World.cell?_spot (hc 0 (by omega))
  subst hspot
  refine ⟨len, fun i => zs.getD i 0, Or.inr ⟨b, o, cap, rfl, fun i hi => by rw [← add_plain]; exact hc i (by omega)⟩, by omega, fun i hi => ?_⟩
  have hmem : zs.getD i 0 ∈ zs := by
    rw [List.getD_eq_getElem?_getD, List.getElem?_eq_getElem (by omega)]
    exact List.getElem_mem _
  have h1 := hw _ hmem
  simp only [Lit.wf, Bool.and_eq_true, decide_eq_true_eq] at h1
  have h2 : IntKind.u8.min = 0 := by decide
  have h3 : IntKind.u8.max = 255 := by decide
  show 0 ≤ zs.getD i 0 ∧ zs.getD i 0 < 256
  omega
set_option maxRecDepth 100000 in
theorem open_row {H : Type} {enc : TypeId × Value → H} {W : World} {base : Nat} {v : Value} {d : DataW H} {p : List MemPlace} (hv : Value.okWide Tryd.prog W .any base 24 v)
    (h : DataW.Trod enc Tryd.prog W 0 (fun _ => true) true 24 v d p) : ∃ (n : Nat) (f : Nat → Int), RdG W v n (fun i => .int .i64 (f i)) ∧ n ≤ 9223372036854775807 := by
  obtain ⟨a0, len, cap, rfl⟩ := okWide_slice Tryd.underlying24 hv
  obtain ⟨fuel, hf⟩ := h
  rcases open_ints Tryd.underlying24 Tryd.underlying2 cells2 hf with ⟨hcs0, _⟩ | ⟨a, len', cap', zs, hcs0, _, hl, hm, hz, _, hc, _⟩
  · simp [Value.cells] at hcs0
    obtain ⟨rfl, rfl, rfl⟩ := hcs0
    exact ⟨0, fun _ => 0, Or.inl ⟨_, _, rfl, rfl⟩, by omega⟩
  simp [Value.cells] at hcs0
  obtain ⟨rfl, rfl, rfl⟩ := hcs0
  rw [maxLen_eq] at hm
  simp only [if_true] at hz
  by_cases h0 : len = 0
  · subst h0
    exact ⟨0, fun _ => 0, Or.inl ⟨_, _, rfl, rfl⟩, by omega⟩
  obtain ⟨b, o, spot⟩ := a
  have hspot : spot = none := by simpa [Addr.add] using World.cell?_spot (hc 0 (by omega))
  subst hspot
  exact ⟨len, fun i => zs.getD i 0, Or.inr ⟨b, o, cap, rfl, fun i hi => by rw [← add_plain]; exact hc i (by omega)⟩, by omega⟩
def laidE : List (String × DataW Unit) := [("errors.errorType", Rows.laid_errors_errorType)]
theorem et0 : Tryd.prog.globalNamed "errors.errorType" = some 0 := by kernel_rfl
theorem rt0 : (Tryd.prog.cutTypes.find? (·.1 == "internal/reflectlite.rtype")).map (·.2) = some 158 := by kernel_rfl
theorem tsize : Tryd.prog.types.size = 207 := by kernel_rfl
theorem oneRow : ((List.range 207).filter fun t => Tryd.prog.rowNamed t [101, 114, 114, 111, 114]) = [94] := by kernel_rfl
theorem et_of {W : World} (h : laidMetH Tryd.prog laidE W) : Et W := by
  have h' : laidMet Tryd.prog [] W ∧ handlesMet Tryd.prog laidE W := h
  obtain ⟨name, u, ty, e1, e2, e3, e4, e5⟩ := h'.2 _ (List.mem_singleton.2 rfl)
  have en : name = [101, 114, 114, 111, 114] := (Option.some.inj e1).symm
  subst en
  obtain rfl := Option.some.inj (rt0.symm.trans e2)
  have hm : ty ∈ (List.range 207).filter fun t => Tryd.prog.rowNamed t [101, 114, 114, 111, 114] := List.mem_filter.2 ⟨List.mem_range.2 (by rw [← tsize]; exact e3), e4⟩
  rw [oneRow] at hm
  obtain rfl := List.mem_singleton.1 hm
  have hh : typeHandle Tryd.prog 94 = .pointer (some ⟨1, 94, none⟩) := by kernel_rfl
  rw [hh] at e5
  unfold Et
  simpa using World.var?_cell et0 e5 0
theorem door_met (os : Os) (args : Array Value) : laidMetH Tryd.prog laidE ((World.doorLaid Tryd.prog 400 os).forCall (fun _ _ => 0) ⟨#[], args, []⟩).memory :=
  laidMetH_of_parts (laidMet_nil _ _) (by kernel_rfl)
end Go.Proofs.YtdknclkecbdpgaaDoor
