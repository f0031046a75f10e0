/-
  No cell of these rows narrows 'for every input' (looked for: loops, veiled, ifaces, maps, wideKeys, modest, calm, conditions, laid).
  DERIVED. THE GIVEN ROWS OF THIS SEAT. 10 by the template 'for every input the law returns true; each argument reads behind the call as it read before'; 0 by the template 'total and deterministic' (their statements: YtgidoceflkdklaaTotals.lean).
  GIVEN WITH THE SEED: the statements are not yours to turn. If you find one false, say at which input.
  Laid BY PROGRAM, IN A SANDBOX (cutbox-rows.mjs): the forced cells as the released guide's own fill.sh prints them over the translation 8fd6d423539d2ff5… (all of the seat's roots in one cut). By AI agents, Wed Nov 11 2026. No macro, syntax, notation, axiom, sorry.
-/
import Derived.Test.YtgidoceflkdklaaChecked
import GoSem.Claim
import GoSem.ClaimJoined
import GoSem.ClaimMapViews
import Derived.JoinedTies
import Derived.KernelRfl
namespace Go.Proofs.Ytgidoceflkdklaa
/- THE CELL 'sum', in the pinned program and in every row, IS THE sha256 OF THE DUMP (.gsa) THAT YtgidoceflkdklaaProg.lean LOADS. Nothing in Lean hashes anything: it is a label: what it is worth is what the hold of that sum in a sandbox is worth. -/
noncomputable def Try.pinned : Pinned := { name := "ytgidoceflkdklaa", sum := "8fd6d423539d2ff5ad98f68cf6d7d432ec0f12f39466d13755d53367b58aa68e", checked := Try.checked }
namespace Rows
def none {H : Type} : Left H := { results := [], args := [] }

/-- 'laws.FnCoins': WHATEVER THE INPUT: true; the input reads as it did. -/
def fnCoinsSpec : ChangeSpec := { name := "fnCoins", fn := fun _ => fun
  | [d] => { results := [.lit (.bool true)], args := [d] }
  | _ => none }
def fnCoinsRow : OpenClaim := { program := "ytgidoceflkdklaa", sum := "8fd6d423539d2ff5ad98f68cf6d7d432ec0f12f39466d13755d53367b58aa68e", func := "loop.example/g00049/laws.FnCoins", spec := "fnCoins", apart := false }
def FnCoinsSaid : Prop := fnCoinsRow.holds Try.pinned (OpenSpec.ofChange fnCoinsSpec)

/-- ITS FALSE NEIGHBOUR: 'it returns false'. Refute it at one input. -/
def fnCoinsWrong : ChangeSpec := { name := "fnCoins", fn := fun _ => fun
  | [d] => { results := [.lit (.bool false)], args := [d] }
  | _ => none }
def FnCoinsWrongFalsely : Prop := fnCoinsRow.holds Try.pinned (OpenSpec.ofChange fnCoinsWrong)

/-- 'laws.FnExactSpectrumOf': WHATEVER THE INPUT: true; the input reads as it did. -/
def fnExactSpectrumOfSpec : ChangeSpec := { name := "fnExactSpectrumOf", fn := fun _ => fun
  | [d] => { results := [.lit (.bool true)], args := [d] }
  | _ => none }
def fnExactSpectrumOfRow : OpenClaim := { program := "ytgidoceflkdklaa", sum := "8fd6d423539d2ff5ad98f68cf6d7d432ec0f12f39466d13755d53367b58aa68e", func := "loop.example/g00049/laws.FnExactSpectrumOf", spec := "fnExactSpectrumOf", inPlace := ["math.sqrt"], recurses := true, leaving := true, apart := false }
def FnExactSpectrumOfSaid : Prop := fnExactSpectrumOfRow.holds Try.pinned (OpenSpec.ofChange fnExactSpectrumOfSpec)

/-- ITS FALSE NEIGHBOUR: 'it returns false'. Refute it at one input. -/
def fnExactSpectrumOfWrong : ChangeSpec := { name := "fnExactSpectrumOf", fn := fun _ => fun
  | [d] => { results := [.lit (.bool false)], args := [d] }
  | _ => none }
def FnExactSpectrumOfWrongFalsely : Prop := fnExactSpectrumOfRow.holds Try.pinned (OpenSpec.ofChange fnExactSpectrumOfWrong)

/-- 'laws.FnExactFieldOf': WHATEVER THE INPUT: true; the input reads as it did. -/
def fnExactFieldOfSpec : ChangeSpec := { name := "fnExactFieldOf", fn := fun _ => fun
  | [d] => { results := [.lit (.bool true)], args := [d] }
  | _ => none }
def fnExactFieldOfRow : OpenClaim := { program := "ytgidoceflkdklaa", sum := "8fd6d423539d2ff5ad98f68cf6d7d432ec0f12f39466d13755d53367b58aa68e", func := "loop.example/g00049/laws.FnExactFieldOf", spec := "fnExactFieldOf", inPlace := ["math.sqrt"], recurses := true, leaving := true, apart := false }
def FnExactFieldOfSaid : Prop := fnExactFieldOfRow.holds Try.pinned (OpenSpec.ofChange fnExactFieldOfSpec)

/-- ITS FALSE NEIGHBOUR: 'it returns false'. Refute it at one input. -/
def fnExactFieldOfWrong : ChangeSpec := { name := "fnExactFieldOf", fn := fun _ => fun
  | [d] => { results := [.lit (.bool false)], args := [d] }
  | _ => none }
def FnExactFieldOfWrongFalsely : Prop := fnExactFieldOfRow.holds Try.pinned (OpenSpec.ofChange fnExactFieldOfWrong)

/-- 'laws.FnExactPhaseField': WHATEVER THE INPUT: true; the input reads as it did. -/
def fnExactPhaseFieldSpec : ChangeSpec := { name := "fnExactPhaseField", fn := fun _ => fun
  | [d1, d2] => { results := [.lit (.bool true)], args := [d1, d2] }
  | _ => none }
def fnExactPhaseFieldRow : OpenClaim := { program := "ytgidoceflkdklaa", sum := "8fd6d423539d2ff5ad98f68cf6d7d432ec0f12f39466d13755d53367b58aa68e", func := "loop.example/g00049/laws.FnExactPhaseField", spec := "fnExactPhaseField", inPlace := ["math.sqrt"], apart := false }
def FnExactPhaseFieldSaid : Prop := fnExactPhaseFieldRow.holds Try.pinned (OpenSpec.ofChange fnExactPhaseFieldSpec)

/-- ITS FALSE NEIGHBOUR: 'it returns false'. Refute it at one input. -/
def fnExactPhaseFieldWrong : ChangeSpec := { name := "fnExactPhaseField", fn := fun _ => fun
  | [d1, d2] => { results := [.lit (.bool false)], args := [d1, d2] }
  | _ => none }
def FnExactPhaseFieldWrongFalsely : Prop := fnExactPhaseFieldRow.holds Try.pinned (OpenSpec.ofChange fnExactPhaseFieldWrong)

/-- 'laws.FnExactDriftField': WHATEVER THE INPUT: true; the input reads as it did. -/
def fnExactDriftFieldSpec : ChangeSpec := { name := "fnExactDriftField", fn := fun _ => fun
  | [d1, d2] => { results := [.lit (.bool true)], args := [d1, d2] }
  | _ => none }
def fnExactDriftFieldRow : OpenClaim := { program := "ytgidoceflkdklaa", sum := "8fd6d423539d2ff5ad98f68cf6d7d432ec0f12f39466d13755d53367b58aa68e", func := "loop.example/g00049/laws.FnExactDriftField", spec := "fnExactDriftField", inPlace := ["math.sqrt"], recurses := true, leaving := true, apart := false }
def FnExactDriftFieldSaid : Prop := fnExactDriftFieldRow.holds Try.pinned (OpenSpec.ofChange fnExactDriftFieldSpec)

/-- ITS FALSE NEIGHBOUR: 'it returns false'. Refute it at one input. -/
def fnExactDriftFieldWrong : ChangeSpec := { name := "fnExactDriftField", fn := fun _ => fun
  | [d1, d2] => { results := [.lit (.bool false)], args := [d1, d2] }
  | _ => none }
def FnExactDriftFieldWrongFalsely : Prop := fnExactDriftFieldRow.holds Try.pinned (OpenSpec.ofChange fnExactDriftFieldWrong)

/-- 'laws.FnExactBentPhases': WHATEVER THE INPUT: true; the input reads as it did. -/
def fnExactBentPhasesSpec : ChangeSpec := { name := "fnExactBentPhases", fn := fun _ => fun
  | [d1, d2] => { results := [.lit (.bool true)], args := [d1, d2] }
  | _ => none }
def fnExactBentPhasesRow : OpenClaim := { program := "ytgidoceflkdklaa", sum := "8fd6d423539d2ff5ad98f68cf6d7d432ec0f12f39466d13755d53367b58aa68e", func := "loop.example/g00049/laws.FnExactBentPhases", spec := "fnExactBentPhases", apart := false }
def FnExactBentPhasesSaid : Prop := fnExactBentPhasesRow.holds Try.pinned (OpenSpec.ofChange fnExactBentPhasesSpec)

/-- ITS FALSE NEIGHBOUR: 'it returns false'. Refute it at one input. -/
def fnExactBentPhasesWrong : ChangeSpec := { name := "fnExactBentPhases", fn := fun _ => fun
  | [d1, d2] => { results := [.lit (.bool false)], args := [d1, d2] }
  | _ => none }
def FnExactBentPhasesWrongFalsely : Prop := fnExactBentPhasesRow.holds Try.pinned (OpenSpec.ofChange fnExactBentPhasesWrong)

/-- 'laws.FnExactPowerOf': WHATEVER THE INPUT: true; the input reads as it did. -/
def fnExactPowerOfSpec : ChangeSpec := { name := "fnExactPowerOf", fn := fun _ => fun
  | [d] => { results := [.lit (.bool true)], args := [d] }
  | _ => none }
def fnExactPowerOfRow : OpenClaim := { program := "ytgidoceflkdklaa", sum := "8fd6d423539d2ff5ad98f68cf6d7d432ec0f12f39466d13755d53367b58aa68e", func := "loop.example/g00049/laws.FnExactPowerOf", spec := "fnExactPowerOf", apart := false }
def FnExactPowerOfSaid : Prop := fnExactPowerOfRow.holds Try.pinned (OpenSpec.ofChange fnExactPowerOfSpec)

/-- ITS FALSE NEIGHBOUR: 'it returns false'. Refute it at one input. -/
def fnExactPowerOfWrong : ChangeSpec := { name := "fnExactPowerOf", fn := fun _ => fun
  | [d] => { results := [.lit (.bool false)], args := [d] }
  | _ => none }
def FnExactPowerOfWrongFalsely : Prop := fnExactPowerOfRow.holds Try.pinned (OpenSpec.ofChange fnExactPowerOfWrong)

/-- 'laws.FnExactCoins': WHATEVER THE INPUT: true; the input reads as it did. -/
def fnExactCoinsSpec : ChangeSpec := { name := "fnExactCoins", fn := fun _ => fun
  | [d1, d2, d3] => { results := [.lit (.bool true)], args := [d1, d2, d3] }
  | _ => none }
def fnExactCoinsRow : OpenClaim := { program := "ytgidoceflkdklaa", sum := "8fd6d423539d2ff5ad98f68cf6d7d432ec0f12f39466d13755d53367b58aa68e", func := "loop.example/g00049/laws.FnExactCoins", spec := "fnExactCoins", apart := false }
def FnExactCoinsSaid : Prop := fnExactCoinsRow.holds Try.pinned (OpenSpec.ofChange fnExactCoinsSpec)

/-- ITS FALSE NEIGHBOUR: 'it returns false'. Refute it at one input. -/
def fnExactCoinsWrong : ChangeSpec := { name := "fnExactCoins", fn := fun _ => fun
  | [d1, d2, d3] => { results := [.lit (.bool false)], args := [d1, d2, d3] }
  | _ => none }
def FnExactCoinsWrongFalsely : Prop := fnExactCoinsRow.holds Try.pinned (OpenSpec.ofChange fnExactCoinsWrong)

/-- 'laws.FnExactSpeckle': WHATEVER THE INPUT: true; the input reads as it did. -/
def fnExactSpeckleSpec : ChangeSpec := { name := "fnExactSpeckle", fn := fun _ => fun
  | [d1, d2] => { results := [.lit (.bool true)], args := [d1, d2] }
  | _ => none }
def fnExactSpeckleRow : OpenClaim := { program := "ytgidoceflkdklaa", sum := "8fd6d423539d2ff5ad98f68cf6d7d432ec0f12f39466d13755d53367b58aa68e", func := "loop.example/g00049/laws.FnExactSpeckle", spec := "fnExactSpeckle", inPlace := ["math.sqrt"], recurses := true, leaving := true, apart := false }
def FnExactSpeckleSaid : Prop := fnExactSpeckleRow.holds Try.pinned (OpenSpec.ofChange fnExactSpeckleSpec)

/-- ITS FALSE NEIGHBOUR: 'it returns false'. Refute it at one input. -/
def fnExactSpeckleWrong : ChangeSpec := { name := "fnExactSpeckle", fn := fun _ => fun
  | [d1, d2] => { results := [.lit (.bool false)], args := [d1, d2] }
  | _ => none }
def FnExactSpeckleWrongFalsely : Prop := fnExactSpeckleRow.holds Try.pinned (OpenSpec.ofChange fnExactSpeckleWrong)

/-- 'laws.FnExactMixModes': WHATEVER THE INPUT: true; the input reads as it did. -/
def fnExactMixModesSpec : ChangeSpec := { name := "fnExactMixModes", fn := fun _ => fun
  | [d] => { results := [.lit (.bool true)], args := [d] }
  | _ => none }
def fnExactMixModesRow : OpenClaim := { program := "ytgidoceflkdklaa", sum := "8fd6d423539d2ff5ad98f68cf6d7d432ec0f12f39466d13755d53367b58aa68e", func := "loop.example/g00049/laws.FnExactMixModes", spec := "fnExactMixModes", apart := false }
def FnExactMixModesSaid : Prop := fnExactMixModesRow.holds Try.pinned (OpenSpec.ofChange fnExactMixModesSpec)

/-- ITS FALSE NEIGHBOUR: 'it returns false'. Refute it at one input. -/
def fnExactMixModesWrong : ChangeSpec := { name := "fnExactMixModes", fn := fun _ => fun
  | [d] => { results := [.lit (.bool false)], args := [d] }
  | _ => none }
def FnExactMixModesWrongFalsely : Prop := fnExactMixModesRow.holds Try.pinned (OpenSpec.ofChange fnExactMixModesWrong)

/- THE SECOND FORM. 'bulk': how many values and letters a reading holds, each counted each time it is reached (what is shared counts as often as it is met; a slice's spare places count too). A statement '..UptoSaid' is the law's where the arguments, and the package variables that the reading takes, are together of bulk at most 1048576: NARROWER than '..Said'. Prove '..Said' where nothing that the law and all that it calls make is longer than what came in: it says more and counts as full. Else prove '..UptoSaid'. A law counts once. -/
mutual
def uptoBulk {H : Type} : DataW H → Nat
  | .lit (.string bytes) => bytes.length + 1
  | .lit _ => 1
  | .nil => 1
  | .ptr d => uptoBulk d + 1
  | .slice elems spare => uptoBulkAll elems + uptoBulkAll spare + 1
  | .agg parts => uptoBulkAll parts + 1
  | .iface _ d => uptoBulk d + 1
  | .map entries => uptoBulkEntries entries + 1
  | .held _ => 1
def uptoBulkAll {H : Type} : List (DataW H) → Nat
  | [] => 0
  | d :: r => uptoBulk d + uptoBulkAll r
def uptoBulkEntries {H : Type} : List (Lit × DataW H) → Nat
  | [] => 0
  | x :: r => uptoBulkEntry x + uptoBulkEntries r
def uptoBulkEntry {H : Type} : Lit × DataW H → Nat
  | (.string bytes, d) => bytes.length + uptoBulk d + 1
  | (_, d) => uptoBulk d + 1
 end
def uptoSmall : (H : Type) → List (DataW H) → Bool := fun _ ds => decide (uptoBulkAll ds ≤ 1048576)
def OpenSpec.upto (s : _root_.Go.ChangeSpec) : _root_.Go.OpenSpec := { _root_.Go.OpenSpec.ofChange s with cond := some uptoSmall }

/-- 'laws.FnCoins', WHERE WHAT IT READS IS OF BULK AT MOST 1048576: true; the input reads as it did. -/
def fnCoinsUptoRow : OpenClaim := { program := "ytgidoceflkdklaa", sum := "8fd6d423539d2ff5ad98f68cf6d7d432ec0f12f39466d13755d53367b58aa68e", func := "loop.example/g00049/laws.FnCoins", spec := "fnCoins", apart := false, narrowed := true }
def FnCoinsUptoSaid : Prop := fnCoinsUptoRow.holds Try.pinned (OpenSpec.upto fnCoinsSpec)

/-- 'laws.FnExactSpectrumOf', WHERE WHAT IT READS IS OF BULK AT MOST 1048576: true; the input reads as it did. -/
def fnExactSpectrumOfUptoRow : OpenClaim := { program := "ytgidoceflkdklaa", sum := "8fd6d423539d2ff5ad98f68cf6d7d432ec0f12f39466d13755d53367b58aa68e", func := "loop.example/g00049/laws.FnExactSpectrumOf", spec := "fnExactSpectrumOf", inPlace := ["math.sqrt"], recurses := true, leaving := true, apart := false, narrowed := true }
def FnExactSpectrumOfUptoSaid : Prop := fnExactSpectrumOfUptoRow.holds Try.pinned (OpenSpec.upto fnExactSpectrumOfSpec)

/-- 'laws.FnExactFieldOf', WHERE WHAT IT READS IS OF BULK AT MOST 1048576: true; the input reads as it did. -/
def fnExactFieldOfUptoRow : OpenClaim := { program := "ytgidoceflkdklaa", sum := "8fd6d423539d2ff5ad98f68cf6d7d432ec0f12f39466d13755d53367b58aa68e", func := "loop.example/g00049/laws.FnExactFieldOf", spec := "fnExactFieldOf", inPlace := ["math.sqrt"], recurses := true, leaving := true, apart := false, narrowed := true }
def FnExactFieldOfUptoSaid : Prop := fnExactFieldOfUptoRow.holds Try.pinned (OpenSpec.upto fnExactFieldOfSpec)

/-- 'laws.FnExactPhaseField', WHERE WHAT IT READS IS OF BULK AT MOST 1048576: true; the input reads as it did. -/
def fnExactPhaseFieldUptoRow : OpenClaim := { program := "ytgidoceflkdklaa", sum := "8fd6d423539d2ff5ad98f68cf6d7d432ec0f12f39466d13755d53367b58aa68e", func := "loop.example/g00049/laws.FnExactPhaseField", spec := "fnExactPhaseField", inPlace := ["math.sqrt"], apart := false, narrowed := true }
def FnExactPhaseFieldUptoSaid : Prop := fnExactPhaseFieldUptoRow.holds Try.pinned (OpenSpec.upto fnExactPhaseFieldSpec)

/-- 'laws.FnExactDriftField', WHERE WHAT IT READS IS OF BULK AT MOST 1048576: true; the input reads as it did. -/
def fnExactDriftFieldUptoRow : OpenClaim := { program := "ytgidoceflkdklaa", sum := "8fd6d423539d2ff5ad98f68cf6d7d432ec0f12f39466d13755d53367b58aa68e", func := "loop.example/g00049/laws.FnExactDriftField", spec := "fnExactDriftField", inPlace := ["math.sqrt"], recurses := true, leaving := true, apart := false, narrowed := true }
def FnExactDriftFieldUptoSaid : Prop := fnExactDriftFieldUptoRow.holds Try.pinned (OpenSpec.upto fnExactDriftFieldSpec)

/-- 'laws.FnExactBentPhases', WHERE WHAT IT READS IS OF BULK AT MOST 1048576: true; the input reads as it did. -/
def fnExactBentPhasesUptoRow : OpenClaim := { program := "ytgidoceflkdklaa", sum := "8fd6d423539d2ff5ad98f68cf6d7d432ec0f12f39466d13755d53367b58aa68e", func := "loop.example/g00049/laws.FnExactBentPhases", spec := "fnExactBentPhases", apart := false, narrowed := true }
def FnExactBentPhasesUptoSaid : Prop := fnExactBentPhasesUptoRow.holds Try.pinned (OpenSpec.upto fnExactBentPhasesSpec)

/-- 'laws.FnExactPowerOf', WHERE WHAT IT READS IS OF BULK AT MOST 1048576: true; the input reads as it did. -/
def fnExactPowerOfUptoRow : OpenClaim := { program := "ytgidoceflkdklaa", sum := "8fd6d423539d2ff5ad98f68cf6d7d432ec0f12f39466d13755d53367b58aa68e", func := "loop.example/g00049/laws.FnExactPowerOf", spec := "fnExactPowerOf", apart := false, narrowed := true }
def FnExactPowerOfUptoSaid : Prop := fnExactPowerOfUptoRow.holds Try.pinned (OpenSpec.upto fnExactPowerOfSpec)

/-- 'laws.FnExactCoins', WHERE WHAT IT READS IS OF BULK AT MOST 1048576: true; the input reads as it did. -/
def fnExactCoinsUptoRow : OpenClaim := { program := "ytgidoceflkdklaa", sum := "8fd6d423539d2ff5ad98f68cf6d7d432ec0f12f39466d13755d53367b58aa68e", func := "loop.example/g00049/laws.FnExactCoins", spec := "fnExactCoins", apart := false, narrowed := true }
def FnExactCoinsUptoSaid : Prop := fnExactCoinsUptoRow.holds Try.pinned (OpenSpec.upto fnExactCoinsSpec)

/-- 'laws.FnExactSpeckle', WHERE WHAT IT READS IS OF BULK AT MOST 1048576: true; the input reads as it did. -/
def fnExactSpeckleUptoRow : OpenClaim := { program := "ytgidoceflkdklaa", sum := "8fd6d423539d2ff5ad98f68cf6d7d432ec0f12f39466d13755d53367b58aa68e", func := "loop.example/g00049/laws.FnExactSpeckle", spec := "fnExactSpeckle", inPlace := ["math.sqrt"], recurses := true, leaving := true, apart := false, narrowed := true }
def FnExactSpeckleUptoSaid : Prop := fnExactSpeckleUptoRow.holds Try.pinned (OpenSpec.upto fnExactSpeckleSpec)

/-- 'laws.FnExactMixModes', WHERE WHAT IT READS IS OF BULK AT MOST 1048576: true; the input reads as it did. -/
def fnExactMixModesUptoRow : OpenClaim := { program := "ytgidoceflkdklaa", sum := "8fd6d423539d2ff5ad98f68cf6d7d432ec0f12f39466d13755d53367b58aa68e", func := "loop.example/g00049/laws.FnExactMixModes", spec := "fnExactMixModes", apart := false, narrowed := true }
def FnExactMixModesUptoSaid : Prop := fnExactMixModesUptoRow.holds Try.pinned (OpenSpec.upto fnExactMixModesSpec)

end Rows
end Go.Proofs.Ytgidoceflkdklaa
