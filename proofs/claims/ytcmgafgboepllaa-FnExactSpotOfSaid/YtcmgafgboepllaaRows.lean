/-
  No cell of these rows narrows 'for every input' (looked for: loops, veiled, ifaces, maps, wideKeys, modest, calm, conditions, laid).
  DERIVED. THE GIVEN ROWS OF THIS SEAT. 7 by the template 'for every input the law returns true; each argument reads behind the call as it read before'; 0 by the template 'total and deterministic' (their statements: YtcmgafgboepllaaTotals.lean).
  GIVEN WITH THE SEED: the statements are not yours to turn. If you find one false, say at which input.
  Laid BY PROGRAM, IN A SANDBOX (cutbox-rows.mjs): the forced cells as the released guide's own fill.sh prints them over the translation 62a87708ffc1d0c2… (all of the seat's roots in one cut). By AI agents, Wed Nov 11 2026. No macro, syntax, notation, axiom, sorry.
-/
import Derived.Test.YtcmgafgboepllaaChecked
import GoSem.Claim
import GoSem.ClaimJoined
import GoSem.ClaimMapViews
import Derived.JoinedTies
import Derived.KernelRfl
namespace Go.Proofs.Ytcmgafgboepllaa
/- THE CELL 'sum', in the pinned program and in every row, IS THE sha256 OF THE DUMP (.gsa) THAT YtcmgafgboepllaaProg.lean LOADS. Nothing in Lean hashes anything: it is a label: what it is worth is what the hold of that sum in a sandbox is worth. -/
noncomputable def Try.pinned : Pinned := { name := "ytcmgafgboepllaa", sum := "62a87708ffc1d0c2cf98095c6ac7694e5253ea05be9ee9127b07dbebb88ab8eb", checked := Try.checked }
namespace Rows
def none {H : Type} : Left H := { results := [], args := [] }

/-- 'laws.FnExactSpotOf': WHATEVER THE INPUT: true; the input reads as it did. -/
def fnExactSpotOfSpec : ChangeSpec := { name := "fnExactSpotOf", fn := fun _ => fun
  | [d] => { results := [.lit (.bool true)], args := [d] }
  | _ => none }
def fnExactSpotOfRow : OpenClaim := { program := "ytcmgafgboepllaa", sum := "62a87708ffc1d0c2cf98095c6ac7694e5253ea05be9ee9127b07dbebb88ab8eb", func := "loop.example/g00049/laws.FnExactSpotOf", spec := "fnExactSpotOf", inPlace := ["math.sqrt"], unfollowed := true, recurses := true, apart := false }
def FnExactSpotOfSaid : Prop := fnExactSpotOfRow.holds Try.pinned (OpenSpec.ofChange fnExactSpotOfSpec)

/-- ITS FALSE NEIGHBOUR: 'it returns false'. Refute it at one input. -/
def fnExactSpotOfWrong : ChangeSpec := { name := "fnExactSpotOf", fn := fun _ => fun
  | [d] => { results := [.lit (.bool false)], args := [d] }
  | _ => none }
def FnExactSpotOfWrongFalsely : Prop := fnExactSpotOfRow.holds Try.pinned (OpenSpec.ofChange fnExactSpotOfWrong)

/-- 'laws.FnExactSolveFloats': WHATEVER THE INPUT: true; the input reads as it did. -/
def fnExactSolveFloatsSpec : ChangeSpec := { name := "fnExactSolveFloats", fn := fun _ => fun
  | [d1, d2] => { results := [.lit (.bool true)], args := [d1, d2] }
  | _ => none }
def fnExactSolveFloatsRow : OpenClaim := { program := "ytcmgafgboepllaa", sum := "62a87708ffc1d0c2cf98095c6ac7694e5253ea05be9ee9127b07dbebb88ab8eb", func := "loop.example/g00049/laws.FnExactSolveFloats", spec := "fnExactSolveFloats", inPlace := ["math.Float64bits", "math.Float64frombits"], apart := false }
def FnExactSolveFloatsSaid : Prop := fnExactSolveFloatsRow.holds Try.pinned (OpenSpec.ofChange fnExactSolveFloatsSpec)

/-- ITS FALSE NEIGHBOUR: 'it returns false'. Refute it at one input. -/
def fnExactSolveFloatsWrong : ChangeSpec := { name := "fnExactSolveFloats", fn := fun _ => fun
  | [d1, d2] => { results := [.lit (.bool false)], args := [d1, d2] }
  | _ => none }
def FnExactSolveFloatsWrongFalsely : Prop := fnExactSolveFloatsRow.holds Try.pinned (OpenSpec.ofChange fnExactSolveFloatsWrong)

/-- 'laws.FnExactPupilTerms': WHATEVER THE INPUT: true; the input reads as it did. -/
def fnExactPupilTermsSpec : ChangeSpec := { name := "fnExactPupilTerms", fn := fun _ => fun
  | [d1, d2, d3] => { results := [.lit (.bool true)], args := [d1, d2, d3] }
  | _ => none }
def fnExactPupilTermsRow : OpenClaim := { program := "ytcmgafgboepllaa", sum := "62a87708ffc1d0c2cf98095c6ac7694e5253ea05be9ee9127b07dbebb88ab8eb", func := "loop.example/g00049/laws.FnExactPupilTerms", spec := "fnExactPupilTerms", apart := false }
def FnExactPupilTermsSaid : Prop := fnExactPupilTermsRow.holds Try.pinned (OpenSpec.ofChange fnExactPupilTermsSpec)

/-- ITS FALSE NEIGHBOUR: 'it returns false'. Refute it at one input. -/
def fnExactPupilTermsWrong : ChangeSpec := { name := "fnExactPupilTerms", fn := fun _ => fun
  | [d1, d2, d3] => { results := [.lit (.bool false)], args := [d1, d2, d3] }
  | _ => none }
def FnExactPupilTermsWrongFalsely : Prop := fnExactPupilTermsRow.holds Try.pinned (OpenSpec.ofChange fnExactPupilTermsWrong)

/-- 'laws.FnExactFitPupil': WHATEVER THE INPUT: true; the input reads as it did. -/
def fnExactFitPupilSpec : ChangeSpec := { name := "fnExactFitPupil", fn := fun _ => fun
  | [d1, d2] => { results := [.lit (.bool true)], args := [d1, d2] }
  | _ => none }
def fnExactFitPupilRow : OpenClaim := { program := "ytcmgafgboepllaa", sum := "62a87708ffc1d0c2cf98095c6ac7694e5253ea05be9ee9127b07dbebb88ab8eb", func := "loop.example/g00049/laws.FnExactFitPupil", spec := "fnExactFitPupil", inPlace := ["math.Float64bits", "math.Float64frombits", "math.sqrt"], unfollowed := true, recurses := true, apart := false }
def FnExactFitPupilSaid : Prop := fnExactFitPupilRow.holds Try.pinned (OpenSpec.ofChange fnExactFitPupilSpec)

/-- ITS FALSE NEIGHBOUR: 'it returns false'. Refute it at one input. -/
def fnExactFitPupilWrong : ChangeSpec := { name := "fnExactFitPupil", fn := fun _ => fun
  | [d1, d2] => { results := [.lit (.bool false)], args := [d1, d2] }
  | _ => none }
def FnExactFitPupilWrongFalsely : Prop := fnExactFitPupilRow.holds Try.pinned (OpenSpec.ofChange fnExactFitPupilWrong)

/-- 'laws.FnExactPupilAt': WHATEVER THE INPUT: true; the input reads as it did. -/
def fnExactPupilAtSpec : ChangeSpec := { name := "fnExactPupilAt", fn := fun _ => fun
  | [d1, d2, d3, d4] => { results := [.lit (.bool true)], args := [d1, d2, d3, d4] }
  | _ => none }
def fnExactPupilAtRow : OpenClaim := { program := "ytcmgafgboepllaa", sum := "62a87708ffc1d0c2cf98095c6ac7694e5253ea05be9ee9127b07dbebb88ab8eb", func := "loop.example/g00049/laws.FnExactPupilAt", spec := "fnExactPupilAt", apart := false }
def FnExactPupilAtSaid : Prop := fnExactPupilAtRow.holds Try.pinned (OpenSpec.ofChange fnExactPupilAtSpec)

/-- ITS FALSE NEIGHBOUR: 'it returns false'. Refute it at one input. -/
def fnExactPupilAtWrong : ChangeSpec := { name := "fnExactPupilAt", fn := fun _ => fun
  | [d1, d2, d3, d4] => { results := [.lit (.bool false)], args := [d1, d2, d3, d4] }
  | _ => none }
def FnExactPupilAtWrongFalsely : Prop := fnExactPupilAtRow.holds Try.pinned (OpenSpec.ofChange fnExactPupilAtWrong)

/-- 'laws.FnExactFluxBook': WHATEVER THE INPUT: true; the input reads as it did. -/
def fnExactFluxBookSpec : ChangeSpec := { name := "fnExactFluxBook", fn := fun _ => fun
  | [d1, d2, d3] => { results := [.lit (.bool true)], args := [d1, d2, d3] }
  | _ => none }
def fnExactFluxBookRow : OpenClaim := { program := "ytcmgafgboepllaa", sum := "62a87708ffc1d0c2cf98095c6ac7694e5253ea05be9ee9127b07dbebb88ab8eb", func := "loop.example/g00049/laws.FnExactFluxBook", spec := "fnExactFluxBook", apart := false }
def FnExactFluxBookSaid : Prop := fnExactFluxBookRow.holds Try.pinned (OpenSpec.ofChange fnExactFluxBookSpec)

/-- ITS FALSE NEIGHBOUR: 'it returns false'. Refute it at one input. -/
def fnExactFluxBookWrong : ChangeSpec := { name := "fnExactFluxBook", fn := fun _ => fun
  | [d1, d2, d3] => { results := [.lit (.bool false)], args := [d1, d2, d3] }
  | _ => none }
def FnExactFluxBookWrongFalsely : Prop := fnExactFluxBookRow.holds Try.pinned (OpenSpec.ofChange fnExactFluxBookWrong)

/-- 'laws.FnExactBinMap': WHATEVER THE INPUT: true; the input reads as it did. -/
def fnExactBinMapSpec : ChangeSpec := { name := "fnExactBinMap", fn := fun _ => fun
  | [d1, d2, d3] => { results := [.lit (.bool true)], args := [d1, d2, d3] }
  | _ => none }
def fnExactBinMapRow : OpenClaim := { program := "ytcmgafgboepllaa", sum := "62a87708ffc1d0c2cf98095c6ac7694e5253ea05be9ee9127b07dbebb88ab8eb", func := "loop.example/g00049/laws.FnExactBinMap", spec := "fnExactBinMap", apart := false }
def FnExactBinMapSaid : Prop := fnExactBinMapRow.holds Try.pinned (OpenSpec.ofChange fnExactBinMapSpec)

/-- ITS FALSE NEIGHBOUR: 'it returns false'. Refute it at one input. -/
def fnExactBinMapWrong : ChangeSpec := { name := "fnExactBinMap", fn := fun _ => fun
  | [d1, d2, d3] => { results := [.lit (.bool false)], args := [d1, d2, d3] }
  | _ => none }
def FnExactBinMapWrongFalsely : Prop := fnExactBinMapRow.holds Try.pinned (OpenSpec.ofChange fnExactBinMapWrong)

/- THE SECOND FORM. 'bulk': how many values and letters a reading holds, each counted each time it is reached (what is shared counts as often as it is met; a slice's spare places count too). A statement '..UptoSaid' is the law's where the arguments, and the package variables that the reading takes, are together of bulk at most 1048576: NARROWER than '..Said'. Prove '..Said' where nothing that the law and all that it calls make is longer than what came in: it says more and counts as full. Else prove '..UptoSaid'. A law counts once. -/
mutual
def uptoBulk {H : Type} : DataW H → Nat
  | .lit (.string bytes) => bytes.length + 1
  | .lit _ => 1
  | .nil => 1
  | .ptr d => uptoBulk d + 1
  | .slice elems spare => uptoBulkAll elems + uptoBulkAll spare + 1
  | .agg parts => uptoBulkAll parts + 1
  | .iface _ d => uptoBulk d + 1
  | .map entries => uptoBulkEntries entries + 1
  | .held _ => 1
def uptoBulkAll {H : Type} : List (DataW H) → Nat
  | [] => 0
  | d :: r => uptoBulk d + uptoBulkAll r
def uptoBulkEntries {H : Type} : List (Lit × DataW H) → Nat
  | [] => 0
  | x :: r => uptoBulkEntry x + uptoBulkEntries r
def uptoBulkEntry {H : Type} : Lit × DataW H → Nat
  | (.string bytes, d) => bytes.length + uptoBulk d + 1
  | (_, d) => uptoBulk d + 1
 end
def uptoSmall : (H : Type) → List (DataW H) → Bool := fun _ ds => decide (uptoBulkAll ds ≤ 1048576)
def OpenSpec.upto (s : _root_.Go.ChangeSpec) : _root_.Go.OpenSpec := { _root_.Go.OpenSpec.ofChange s with cond := some uptoSmall }

/-- 'laws.FnExactSpotOf', WHERE WHAT IT READS IS OF BULK AT MOST 1048576: true; the input reads as it did. -/
def fnExactSpotOfUptoRow : OpenClaim := { program := "ytcmgafgboepllaa", sum := "62a87708ffc1d0c2cf98095c6ac7694e5253ea05be9ee9127b07dbebb88ab8eb", func := "loop.example/g00049/laws.FnExactSpotOf", spec := "fnExactSpotOf", inPlace := ["math.sqrt"], unfollowed := true, recurses := true, apart := false, narrowed := true }
def FnExactSpotOfUptoSaid : Prop := fnExactSpotOfUptoRow.holds Try.pinned (OpenSpec.upto fnExactSpotOfSpec)

/-- 'laws.FnExactSolveFloats', WHERE WHAT IT READS IS OF BULK AT MOST 1048576: true; the input reads as it did. -/
def fnExactSolveFloatsUptoRow : OpenClaim := { program := "ytcmgafgboepllaa", sum := "62a87708ffc1d0c2cf98095c6ac7694e5253ea05be9ee9127b07dbebb88ab8eb", func := "loop.example/g00049/laws.FnExactSolveFloats", spec := "fnExactSolveFloats", inPlace := ["math.Float64bits", "math.Float64frombits"], apart := false, narrowed := true }
def FnExactSolveFloatsUptoSaid : Prop := fnExactSolveFloatsUptoRow.holds Try.pinned (OpenSpec.upto fnExactSolveFloatsSpec)

/-- 'laws.FnExactPupilTerms', WHERE WHAT IT READS IS OF BULK AT MOST 1048576: true; the input reads as it did. -/
def fnExactPupilTermsUptoRow : OpenClaim := { program := "ytcmgafgboepllaa", sum := "62a87708ffc1d0c2cf98095c6ac7694e5253ea05be9ee9127b07dbebb88ab8eb", func := "loop.example/g00049/laws.FnExactPupilTerms", spec := "fnExactPupilTerms", apart := false, narrowed := true }
def FnExactPupilTermsUptoSaid : Prop := fnExactPupilTermsUptoRow.holds Try.pinned (OpenSpec.upto fnExactPupilTermsSpec)

/-- 'laws.FnExactFitPupil', WHERE WHAT IT READS IS OF BULK AT MOST 1048576: true; the input reads as it did. -/
def fnExactFitPupilUptoRow : OpenClaim := { program := "ytcmgafgboepllaa", sum := "62a87708ffc1d0c2cf98095c6ac7694e5253ea05be9ee9127b07dbebb88ab8eb", func := "loop.example/g00049/laws.FnExactFitPupil", spec := "fnExactFitPupil", inPlace := ["math.Float64bits", "math.Float64frombits", "math.sqrt"], unfollowed := true, recurses := true, apart := false, narrowed := true }
def FnExactFitPupilUptoSaid : Prop := fnExactFitPupilUptoRow.holds Try.pinned (OpenSpec.upto fnExactFitPupilSpec)

/-- 'laws.FnExactPupilAt', WHERE WHAT IT READS IS OF BULK AT MOST 1048576: true; the input reads as it did. -/
def fnExactPupilAtUptoRow : OpenClaim := { program := "ytcmgafgboepllaa", sum := "62a87708ffc1d0c2cf98095c6ac7694e5253ea05be9ee9127b07dbebb88ab8eb", func := "loop.example/g00049/laws.FnExactPupilAt", spec := "fnExactPupilAt", apart := false, narrowed := true }
def FnExactPupilAtUptoSaid : Prop := fnExactPupilAtUptoRow.holds Try.pinned (OpenSpec.upto fnExactPupilAtSpec)

/-- 'laws.FnExactFluxBook', WHERE WHAT IT READS IS OF BULK AT MOST 1048576: true; the input reads as it did. -/
def fnExactFluxBookUptoRow : OpenClaim := { program := "ytcmgafgboepllaa", sum := "62a87708ffc1d0c2cf98095c6ac7694e5253ea05be9ee9127b07dbebb88ab8eb", func := "loop.example/g00049/laws.FnExactFluxBook", spec := "fnExactFluxBook", apart := false, narrowed := true }
def FnExactFluxBookUptoSaid : Prop := fnExactFluxBookUptoRow.holds Try.pinned (OpenSpec.upto fnExactFluxBookSpec)

/-- 'laws.FnExactBinMap', WHERE WHAT IT READS IS OF BULK AT MOST 1048576: true; the input reads as it did. -/
def fnExactBinMapUptoRow : OpenClaim := { program := "ytcmgafgboepllaa", sum := "62a87708ffc1d0c2cf98095c6ac7694e5253ea05be9ee9127b07dbebb88ab8eb", func := "loop.example/g00049/laws.FnExactBinMap", spec := "fnExactBinMap", apart := false, narrowed := true }
def FnExactBinMapUptoSaid : Prop := fnExactBinMapUptoRow.holds Try.pinned (OpenSpec.upto fnExactBinMapSpec)

end Rows
end Go.Proofs.Ytcmgafgboepllaa
