/-
  No cell of these rows narrows 'for every input' (looked for: loops, veiled, ifaces, maps, wideKeys, modest, calm, conditions, laid).
  DERIVED. THE GIVEN ROWS OF THIS SEAT. 13 by the template 'for every input the law returns true; each argument reads behind the call as it read before'; 0 by the template 'total and deterministic' (their statements: YtbagaicbochmnaaTotals.lean).
  GIVEN WITH THE SEED: the statements are not yours to turn. If you find one false, say at which input.
  Laid BY PROGRAM, IN A SANDBOX (cutbox-rows.mjs): the forced cells as the released guide's own fill.sh prints them over the translation a3ebb866c06ba3fe… (all of the seat's roots in one cut). By AI agents, Wed Nov 11 2026. No macro, syntax, notation, axiom, sorry.
-/
import Derived.Test.YtbagaicbochmnaaChecked
import GoSem.Claim
import GoSem.ClaimJoined
import GoSem.ClaimMapViews
import Derived.JoinedTies
import Derived.KernelRfl
namespace Go.Proofs.Ytbagaicbochmnaa
/- THE CELL 'sum', in the pinned program and in every row, IS THE sha256 OF THE DUMP (.gsa) THAT YtbagaicbochmnaaProg.lean LOADS. Nothing in Lean hashes anything: it is a label: what it is worth is what the hold of that sum in a sandbox is worth. -/
noncomputable def Try.pinned : Pinned := { name := "ytbagaicbochmnaa", sum := "a3ebb866c06ba3fe5f13cd84fe5637cbad229b03de3725cc4c6f7fa21d507c0f", checked := Try.checked }
namespace Rows
def none {H : Type} : Left H := { results := [], args := [] }

/-- 'laws.FnExactRowsFault': WHATEVER THE INPUT: true; the input reads as it did. -/
def fnExactRowsFaultSpec : ChangeSpec := { name := "fnExactRowsFault", fn := fun _ => fun
  | [d] => { results := [.lit (.bool true)], args := [d] }
  | _ => none }
def fnExactRowsFaultRow : OpenClaim := { program := "ytbagaicbochmnaa", sum := "a3ebb866c06ba3fe5f13cd84fe5637cbad229b03de3725cc4c6f7fa21d507c0f", func := "loop.example/g00049/laws.FnExactRowsFault", spec := "fnExactRowsFault", apart := false }
def FnExactRowsFaultSaid : Prop := fnExactRowsFaultRow.holds Try.pinned (OpenSpec.ofChange fnExactRowsFaultSpec)

/-- ITS FALSE NEIGHBOUR: 'it returns false'. Refute it at one input. -/
def fnExactRowsFaultWrong : ChangeSpec := { name := "fnExactRowsFault", fn := fun _ => fun
  | [d] => { results := [.lit (.bool false)], args := [d] }
  | _ => none }
def FnExactRowsFaultWrongFalsely : Prop := fnExactRowsFaultRow.holds Try.pinned (OpenSpec.ofChange fnExactRowsFaultWrong)

/-- 'laws.FnExactMulRows': WHATEVER THE INPUT: true; the input reads as it did. -/
def fnExactMulRowsSpec : ChangeSpec := { name := "fnExactMulRows", fn := fun _ => fun
  | [d1, d2] => { results := [.lit (.bool true)], args := [d1, d2] }
  | _ => none }
def fnExactMulRowsRow : OpenClaim := { program := "ytbagaicbochmnaa", sum := "a3ebb866c06ba3fe5f13cd84fe5637cbad229b03de3725cc4c6f7fa21d507c0f", func := "loop.example/g00049/laws.FnExactMulRows", spec := "fnExactMulRows", apart := false }
def FnExactMulRowsSaid : Prop := fnExactMulRowsRow.holds Try.pinned (OpenSpec.ofChange fnExactMulRowsSpec)

/-- ITS FALSE NEIGHBOUR: 'it returns false'. Refute it at one input. -/
def fnExactMulRowsWrong : ChangeSpec := { name := "fnExactMulRows", fn := fun _ => fun
  | [d1, d2] => { results := [.lit (.bool false)], args := [d1, d2] }
  | _ => none }
def FnExactMulRowsWrongFalsely : Prop := fnExactMulRowsRow.holds Try.pinned (OpenSpec.ofChange fnExactMulRowsWrong)

/-- 'laws.FnExactInvRows': WHATEVER THE INPUT: true; the input reads as it did. -/
def fnExactInvRowsSpec : ChangeSpec := { name := "fnExactInvRows", fn := fun _ => fun
  | [d] => { results := [.lit (.bool true)], args := [d] }
  | _ => none }
def fnExactInvRowsRow : OpenClaim := { program := "ytbagaicbochmnaa", sum := "a3ebb866c06ba3fe5f13cd84fe5637cbad229b03de3725cc4c6f7fa21d507c0f", func := "loop.example/g00049/laws.FnExactInvRows", spec := "fnExactInvRows", apart := false }
def FnExactInvRowsSaid : Prop := fnExactInvRowsRow.holds Try.pinned (OpenSpec.ofChange fnExactInvRowsSpec)

/-- ITS FALSE NEIGHBOUR: 'it returns false'. Refute it at one input. -/
def fnExactInvRowsWrong : ChangeSpec := { name := "fnExactInvRows", fn := fun _ => fun
  | [d] => { results := [.lit (.bool false)], args := [d] }
  | _ => none }
def FnExactInvRowsWrongFalsely : Prop := fnExactInvRowsRow.holds Try.pinned (OpenSpec.ofChange fnExactInvRowsWrong)

/-- 'laws.FnExactSolveRows': WHATEVER THE INPUT: true; the input reads as it did. -/
def fnExactSolveRowsSpec : ChangeSpec := { name := "fnExactSolveRows", fn := fun _ => fun
  | [d1, d2] => { results := [.lit (.bool true)], args := [d1, d2] }
  | _ => none }
def fnExactSolveRowsRow : OpenClaim := { program := "ytbagaicbochmnaa", sum := "a3ebb866c06ba3fe5f13cd84fe5637cbad229b03de3725cc4c6f7fa21d507c0f", func := "loop.example/g00049/laws.FnExactSolveRows", spec := "fnExactSolveRows", apart := false }
def FnExactSolveRowsSaid : Prop := fnExactSolveRowsRow.holds Try.pinned (OpenSpec.ofChange fnExactSolveRowsSpec)

/-- ITS FALSE NEIGHBOUR: 'it returns false'. Refute it at one input. -/
def fnExactSolveRowsWrong : ChangeSpec := { name := "fnExactSolveRows", fn := fun _ => fun
  | [d1, d2] => { results := [.lit (.bool false)], args := [d1, d2] }
  | _ => none }
def FnExactSolveRowsWrongFalsely : Prop := fnExactSolveRowsRow.holds Try.pinned (OpenSpec.ofChange fnExactSolveRowsWrong)

/-- 'laws.FnExactWrapPhase': WHATEVER THE INPUT: true; the input reads as it did. -/
def fnExactWrapPhaseSpec : ChangeSpec := { name := "fnExactWrapPhase", fn := fun _ => fun
  | [d] => { results := [.lit (.bool true)], args := [d] }
  | _ => none }
def fnExactWrapPhaseRow : OpenClaim := { program := "ytbagaicbochmnaa", sum := "a3ebb866c06ba3fe5f13cd84fe5637cbad229b03de3725cc4c6f7fa21d507c0f", func := "loop.example/g00049/laws.FnExactWrapPhase", spec := "fnExactWrapPhase", apart := false }
def FnExactWrapPhaseSaid : Prop := fnExactWrapPhaseRow.holds Try.pinned (OpenSpec.ofChange fnExactWrapPhaseSpec)

/-- ITS FALSE NEIGHBOUR: 'it returns false'. Refute it at one input. -/
def fnExactWrapPhaseWrong : ChangeSpec := { name := "fnExactWrapPhase", fn := fun _ => fun
  | [d] => { results := [.lit (.bool false)], args := [d] }
  | _ => none }
def FnExactWrapPhaseWrongFalsely : Prop := fnExactWrapPhaseRow.holds Try.pinned (OpenSpec.ofChange fnExactWrapPhaseWrong)

/-- 'laws.FnExactUnwrapRow': WHATEVER THE INPUT: true; the input reads as it did. -/
def fnExactUnwrapRowSpec : ChangeSpec := { name := "fnExactUnwrapRow", fn := fun _ => fun
  | [d] => { results := [.lit (.bool true)], args := [d] }
  | _ => none }
def fnExactUnwrapRowRow : OpenClaim := { program := "ytbagaicbochmnaa", sum := "a3ebb866c06ba3fe5f13cd84fe5637cbad229b03de3725cc4c6f7fa21d507c0f", func := "loop.example/g00049/laws.FnExactUnwrapRow", spec := "fnExactUnwrapRow", apart := false }
def FnExactUnwrapRowSaid : Prop := fnExactUnwrapRowRow.holds Try.pinned (OpenSpec.ofChange fnExactUnwrapRowSpec)

/-- ITS FALSE NEIGHBOUR: 'it returns false'. Refute it at one input. -/
def fnExactUnwrapRowWrong : ChangeSpec := { name := "fnExactUnwrapRow", fn := fun _ => fun
  | [d] => { results := [.lit (.bool false)], args := [d] }
  | _ => none }
def FnExactUnwrapRowWrongFalsely : Prop := fnExactUnwrapRowRow.holds Try.pinned (OpenSpec.ofChange fnExactUnwrapRowWrong)

/-- 'laws.FnExactMapFault': WHATEVER THE INPUT: true; the input reads as it did. -/
def fnExactMapFaultSpec : ChangeSpec := { name := "fnExactMapFault", fn := fun _ => fun
  | [d] => { results := [.lit (.bool true)], args := [d] }
  | _ => none }
def fnExactMapFaultRow : OpenClaim := { program := "ytbagaicbochmnaa", sum := "a3ebb866c06ba3fe5f13cd84fe5637cbad229b03de3725cc4c6f7fa21d507c0f", func := "loop.example/g00049/laws.FnExactMapFault", spec := "fnExactMapFault", apart := false }
def FnExactMapFaultSaid : Prop := fnExactMapFaultRow.holds Try.pinned (OpenSpec.ofChange fnExactMapFaultSpec)

/-- ITS FALSE NEIGHBOUR: 'it returns false'. Refute it at one input. -/
def fnExactMapFaultWrong : ChangeSpec := { name := "fnExactMapFault", fn := fun _ => fun
  | [d] => { results := [.lit (.bool false)], args := [d] }
  | _ => none }
def FnExactMapFaultWrongFalsely : Prop := fnExactMapFaultRow.holds Try.pinned (OpenSpec.ofChange fnExactMapFaultWrong)

/-- 'laws.FnExactUnwrapMap': WHATEVER THE INPUT: true; the input reads as it did. -/
def fnExactUnwrapMapSpec : ChangeSpec := { name := "fnExactUnwrapMap", fn := fun _ => fun
  | [d] => { results := [.lit (.bool true)], args := [d] }
  | _ => none }
def fnExactUnwrapMapRow : OpenClaim := { program := "ytbagaicbochmnaa", sum := "a3ebb866c06ba3fe5f13cd84fe5637cbad229b03de3725cc4c6f7fa21d507c0f", func := "loop.example/g00049/laws.FnExactUnwrapMap", spec := "fnExactUnwrapMap", unfollowed := true, recurses := true, apart := false }
def FnExactUnwrapMapSaid : Prop := fnExactUnwrapMapRow.holds Try.pinned (OpenSpec.ofChange fnExactUnwrapMapSpec)

/-- ITS FALSE NEIGHBOUR: 'it returns false'. Refute it at one input. -/
def fnExactUnwrapMapWrong : ChangeSpec := { name := "fnExactUnwrapMap", fn := fun _ => fun
  | [d] => { results := [.lit (.bool false)], args := [d] }
  | _ => none }
def FnExactUnwrapMapWrongFalsely : Prop := fnExactUnwrapMapRow.holds Try.pinned (OpenSpec.ofChange fnExactUnwrapMapWrong)

/-- 'laws.FnExactPhaseKnots': WHATEVER THE INPUT: true; the input reads as it did. -/
def fnExactPhaseKnotsSpec : ChangeSpec := { name := "fnExactPhaseKnots", fn := fun _ => fun
  | [d] => { results := [.lit (.bool true)], args := [d] }
  | _ => none }
def fnExactPhaseKnotsRow : OpenClaim := { program := "ytbagaicbochmnaa", sum := "a3ebb866c06ba3fe5f13cd84fe5637cbad229b03de3725cc4c6f7fa21d507c0f", func := "loop.example/g00049/laws.FnExactPhaseKnots", spec := "fnExactPhaseKnots", unfollowed := true, recurses := true, apart := false }
def FnExactPhaseKnotsSaid : Prop := fnExactPhaseKnotsRow.holds Try.pinned (OpenSpec.ofChange fnExactPhaseKnotsSpec)

/-- ITS FALSE NEIGHBOUR: 'it returns false'. Refute it at one input. -/
def fnExactPhaseKnotsWrong : ChangeSpec := { name := "fnExactPhaseKnots", fn := fun _ => fun
  | [d] => { results := [.lit (.bool false)], args := [d] }
  | _ => none }
def FnExactPhaseKnotsWrongFalsely : Prop := fnExactPhaseKnotsRow.holds Try.pinned (OpenSpec.ofChange fnExactPhaseKnotsWrong)

/-- 'laws.FnExactUnwrapAcross': WHATEVER THE INPUT: true; the input reads as it did. -/
def fnExactUnwrapAcrossSpec : ChangeSpec := { name := "fnExactUnwrapAcross", fn := fun _ => fun
  | [d] => { results := [.lit (.bool true)], args := [d] }
  | _ => none }
def fnExactUnwrapAcrossRow : OpenClaim := { program := "ytbagaicbochmnaa", sum := "a3ebb866c06ba3fe5f13cd84fe5637cbad229b03de3725cc4c6f7fa21d507c0f", func := "loop.example/g00049/laws.FnExactUnwrapAcross", spec := "fnExactUnwrapAcross", unfollowed := true, recurses := true, apart := false }
def FnExactUnwrapAcrossSaid : Prop := fnExactUnwrapAcrossRow.holds Try.pinned (OpenSpec.ofChange fnExactUnwrapAcrossSpec)

/-- ITS FALSE NEIGHBOUR: 'it returns false'. Refute it at one input. -/
def fnExactUnwrapAcrossWrong : ChangeSpec := { name := "fnExactUnwrapAcross", fn := fun _ => fun
  | [d] => { results := [.lit (.bool false)], args := [d] }
  | _ => none }
def FnExactUnwrapAcrossWrongFalsely : Prop := fnExactUnwrapAcrossRow.holds Try.pinned (OpenSpec.ofChange fnExactUnwrapAcrossWrong)

/-- 'laws.FnExactAngleOf': WHATEVER THE INPUT: true; the input reads as it did. -/
def fnExactAngleOfSpec : ChangeSpec := { name := "fnExactAngleOf", fn := fun _ => fun
  | [d] => { results := [.lit (.bool true)], args := [d] }
  | _ => none }
def fnExactAngleOfRow : OpenClaim := { program := "ytbagaicbochmnaa", sum := "a3ebb866c06ba3fe5f13cd84fe5637cbad229b03de3725cc4c6f7fa21d507c0f", func := "loop.example/g00049/laws.FnExactAngleOf", spec := "fnExactAngleOf", inPlace := ["math.sqrt"], apart := false }
def FnExactAngleOfSaid : Prop := fnExactAngleOfRow.holds Try.pinned (OpenSpec.ofChange fnExactAngleOfSpec)

/-- ITS FALSE NEIGHBOUR: 'it returns false'. Refute it at one input. -/
def fnExactAngleOfWrong : ChangeSpec := { name := "fnExactAngleOf", fn := fun _ => fun
  | [d] => { results := [.lit (.bool false)], args := [d] }
  | _ => none }
def FnExactAngleOfWrongFalsely : Prop := fnExactAngleOfRow.holds Try.pinned (OpenSpec.ofChange fnExactAngleOfWrong)

/-- 'laws.FnExactFourSteps': WHATEVER THE INPUT: true; the input reads as it did. -/
def fnExactFourStepsSpec : ChangeSpec := { name := "fnExactFourSteps", fn := fun _ => fun
  | [d1, d2, d3, d4] => { results := [.lit (.bool true)], args := [d1, d2, d3, d4] }
  | _ => none }
def fnExactFourStepsRow : OpenClaim := { program := "ytbagaicbochmnaa", sum := "a3ebb866c06ba3fe5f13cd84fe5637cbad229b03de3725cc4c6f7fa21d507c0f", func := "loop.example/g00049/laws.FnExactFourSteps", spec := "fnExactFourSteps", inPlace := ["math.sqrt"], apart := false }
def FnExactFourStepsSaid : Prop := fnExactFourStepsRow.holds Try.pinned (OpenSpec.ofChange fnExactFourStepsSpec)

/-- ITS FALSE NEIGHBOUR: 'it returns false'. Refute it at one input. -/
def fnExactFourStepsWrong : ChangeSpec := { name := "fnExactFourSteps", fn := fun _ => fun
  | [d1, d2, d3, d4] => { results := [.lit (.bool false)], args := [d1, d2, d3, d4] }
  | _ => none }
def FnExactFourStepsWrongFalsely : Prop := fnExactFourStepsRow.holds Try.pinned (OpenSpec.ofChange fnExactFourStepsWrong)

/-- 'laws.FnExactVisibilityOf': WHATEVER THE INPUT: true; the input reads as it did. -/
def fnExactVisibilityOfSpec : ChangeSpec := { name := "fnExactVisibilityOf", fn := fun _ => fun
  | [d] => { results := [.lit (.bool true)], args := [d] }
  | _ => none }
def fnExactVisibilityOfRow : OpenClaim := { program := "ytbagaicbochmnaa", sum := "a3ebb866c06ba3fe5f13cd84fe5637cbad229b03de3725cc4c6f7fa21d507c0f", func := "loop.example/g00049/laws.FnExactVisibilityOf", spec := "fnExactVisibilityOf", apart := false }
def FnExactVisibilityOfSaid : Prop := fnExactVisibilityOfRow.holds Try.pinned (OpenSpec.ofChange fnExactVisibilityOfSpec)

/-- ITS FALSE NEIGHBOUR: 'it returns false'. Refute it at one input. -/
def fnExactVisibilityOfWrong : ChangeSpec := { name := "fnExactVisibilityOf", fn := fun _ => fun
  | [d] => { results := [.lit (.bool false)], args := [d] }
  | _ => none }
def FnExactVisibilityOfWrongFalsely : Prop := fnExactVisibilityOfRow.holds Try.pinned (OpenSpec.ofChange fnExactVisibilityOfWrong)

/- THE SECOND FORM. 'bulk': how many values and letters a reading holds, each counted each time it is reached (what is shared counts as often as it is met; a slice's spare places count too). A statement '..UptoSaid' is the law's where the arguments, and the package variables that the reading takes, are together of bulk at most 1048576: NARROWER than '..Said'. Prove '..Said' where nothing that the law and all that it calls make is longer than what came in: it says more and counts as full. Else prove '..UptoSaid'. A law counts once. -/
mutual
def uptoBulk {H : Type} : DataW H → Nat
  | .lit (.string bytes) => bytes.length + 1
  | .lit _ => 1
  | .nil => 1
  | .ptr d => uptoBulk d + 1
  | .slice elems spare => uptoBulkAll elems + uptoBulkAll spare + 1
  | .agg parts => uptoBulkAll parts + 1
  | .iface _ d => uptoBulk d + 1
  | .map entries => uptoBulkEntries entries + 1
  | .held _ => 1
def uptoBulkAll {H : Type} : List (DataW H) → Nat
  | [] => 0
  | d :: r => uptoBulk d + uptoBulkAll r
def uptoBulkEntries {H : Type} : List (Lit × DataW H) → Nat
  | [] => 0
  | x :: r => uptoBulkEntry x + uptoBulkEntries r
def uptoBulkEntry {H : Type} : Lit × DataW H → Nat
  | (.string bytes, d) => bytes.length + uptoBulk d + 1
  | (_, d) => uptoBulk d + 1
 end
def uptoSmall : (H : Type) → List (DataW H) → Bool := fun _ ds => decide (uptoBulkAll ds ≤ 1048576)
def OpenSpec.upto (s : _root_.Go.ChangeSpec) : _root_.Go.OpenSpec := { _root_.Go.OpenSpec.ofChange s with cond := some uptoSmall }

/-- 'laws.FnExactRowsFault', WHERE WHAT IT READS IS OF BULK AT MOST 1048576: true; the input reads as it did. -/
def fnExactRowsFaultUptoRow : OpenClaim := { program := "ytbagaicbochmnaa", sum := "a3ebb866c06ba3fe5f13cd84fe5637cbad229b03de3725cc4c6f7fa21d507c0f", func := "loop.example/g00049/laws.FnExactRowsFault", spec := "fnExactRowsFault", apart := false, narrowed := true }
def FnExactRowsFaultUptoSaid : Prop := fnExactRowsFaultUptoRow.holds Try.pinned (OpenSpec.upto fnExactRowsFaultSpec)

/-- 'laws.FnExactMulRows', WHERE WHAT IT READS IS OF BULK AT MOST 1048576: true; the input reads as it did. -/
def fnExactMulRowsUptoRow : OpenClaim := { program := "ytbagaicbochmnaa", sum := "a3ebb866c06ba3fe5f13cd84fe5637cbad229b03de3725cc4c6f7fa21d507c0f", func := "loop.example/g00049/laws.FnExactMulRows", spec := "fnExactMulRows", apart := false, narrowed := true }
def FnExactMulRowsUptoSaid : Prop := fnExactMulRowsUptoRow.holds Try.pinned (OpenSpec.upto fnExactMulRowsSpec)

/-- 'laws.FnExactInvRows', WHERE WHAT IT READS IS OF BULK AT MOST 1048576: true; the input reads as it did. -/
def fnExactInvRowsUptoRow : OpenClaim := { program := "ytbagaicbochmnaa", sum := "a3ebb866c06ba3fe5f13cd84fe5637cbad229b03de3725cc4c6f7fa21d507c0f", func := "loop.example/g00049/laws.FnExactInvRows", spec := "fnExactInvRows", apart := false, narrowed := true }
def FnExactInvRowsUptoSaid : Prop := fnExactInvRowsUptoRow.holds Try.pinned (OpenSpec.upto fnExactInvRowsSpec)

/-- 'laws.FnExactSolveRows', WHERE WHAT IT READS IS OF BULK AT MOST 1048576: true; the input reads as it did. -/
def fnExactSolveRowsUptoRow : OpenClaim := { program := "ytbagaicbochmnaa", sum := "a3ebb866c06ba3fe5f13cd84fe5637cbad229b03de3725cc4c6f7fa21d507c0f", func := "loop.example/g00049/laws.FnExactSolveRows", spec := "fnExactSolveRows", apart := false, narrowed := true }
def FnExactSolveRowsUptoSaid : Prop := fnExactSolveRowsUptoRow.holds Try.pinned (OpenSpec.upto fnExactSolveRowsSpec)

/-- 'laws.FnExactWrapPhase', WHERE WHAT IT READS IS OF BULK AT MOST 1048576: true; the input reads as it did. -/
def fnExactWrapPhaseUptoRow : OpenClaim := { program := "ytbagaicbochmnaa", sum := "a3ebb866c06ba3fe5f13cd84fe5637cbad229b03de3725cc4c6f7fa21d507c0f", func := "loop.example/g00049/laws.FnExactWrapPhase", spec := "fnExactWrapPhase", apart := false, narrowed := true }
def FnExactWrapPhaseUptoSaid : Prop := fnExactWrapPhaseUptoRow.holds Try.pinned (OpenSpec.upto fnExactWrapPhaseSpec)

/-- 'laws.FnExactUnwrapRow', WHERE WHAT IT READS IS OF BULK AT MOST 1048576: true; the input reads as it did. -/
def fnExactUnwrapRowUptoRow : OpenClaim := { program := "ytbagaicbochmnaa", sum := "a3ebb866c06ba3fe5f13cd84fe5637cbad229b03de3725cc4c6f7fa21d507c0f", func := "loop.example/g00049/laws.FnExactUnwrapRow", spec := "fnExactUnwrapRow", apart := false, narrowed := true }
def FnExactUnwrapRowUptoSaid : Prop := fnExactUnwrapRowUptoRow.holds Try.pinned (OpenSpec.upto fnExactUnwrapRowSpec)

/-- 'laws.FnExactMapFault', WHERE WHAT IT READS IS OF BULK AT MOST 1048576: true; the input reads as it did. -/
def fnExactMapFaultUptoRow : OpenClaim := { program := "ytbagaicbochmnaa", sum := "a3ebb866c06ba3fe5f13cd84fe5637cbad229b03de3725cc4c6f7fa21d507c0f", func := "loop.example/g00049/laws.FnExactMapFault", spec := "fnExactMapFault", apart := false, narrowed := true }
def FnExactMapFaultUptoSaid : Prop := fnExactMapFaultUptoRow.holds Try.pinned (OpenSpec.upto fnExactMapFaultSpec)

/-- 'laws.FnExactUnwrapMap', WHERE WHAT IT READS IS OF BULK AT MOST 1048576: true; the input reads as it did. -/
def fnExactUnwrapMapUptoRow : OpenClaim := { program := "ytbagaicbochmnaa", sum := "a3ebb866c06ba3fe5f13cd84fe5637cbad229b03de3725cc4c6f7fa21d507c0f", func := "loop.example/g00049/laws.FnExactUnwrapMap", spec := "fnExactUnwrapMap", unfollowed := true, recurses := true, apart := false, narrowed := true }
def FnExactUnwrapMapUptoSaid : Prop := fnExactUnwrapMapUptoRow.holds Try.pinned (OpenSpec.upto fnExactUnwrapMapSpec)

/-- 'laws.FnExactPhaseKnots', WHERE WHAT IT READS IS OF BULK AT MOST 1048576: true; the input reads as it did. -/
def fnExactPhaseKnotsUptoRow : OpenClaim := { program := "ytbagaicbochmnaa", sum := "a3ebb866c06ba3fe5f13cd84fe5637cbad229b03de3725cc4c6f7fa21d507c0f", func := "loop.example/g00049/laws.FnExactPhaseKnots", spec := "fnExactPhaseKnots", unfollowed := true, recurses := true, apart := false, narrowed := true }
def FnExactPhaseKnotsUptoSaid : Prop := fnExactPhaseKnotsUptoRow.holds Try.pinned (OpenSpec.upto fnExactPhaseKnotsSpec)

/-- 'laws.FnExactUnwrapAcross', WHERE WHAT IT READS IS OF BULK AT MOST 1048576: true; the input reads as it did. -/
def fnExactUnwrapAcrossUptoRow : OpenClaim := { program := "ytbagaicbochmnaa", sum := "a3ebb866c06ba3fe5f13cd84fe5637cbad229b03de3725cc4c6f7fa21d507c0f", func := "loop.example/g00049/laws.FnExactUnwrapAcross", spec := "fnExactUnwrapAcross", unfollowed := true, recurses := true, apart := false, narrowed := true }
def FnExactUnwrapAcrossUptoSaid : Prop := fnExactUnwrapAcrossUptoRow.holds Try.pinned (OpenSpec.upto fnExactUnwrapAcrossSpec)

/-- 'laws.FnExactAngleOf', WHERE WHAT IT READS IS OF BULK AT MOST 1048576: true; the input reads as it did. -/
def fnExactAngleOfUptoRow : OpenClaim := { program := "ytbagaicbochmnaa", sum := "a3ebb866c06ba3fe5f13cd84fe5637cbad229b03de3725cc4c6f7fa21d507c0f", func := "loop.example/g00049/laws.FnExactAngleOf", spec := "fnExactAngleOf", inPlace := ["math.sqrt"], apart := false, narrowed := true }
def FnExactAngleOfUptoSaid : Prop := fnExactAngleOfUptoRow.holds Try.pinned (OpenSpec.upto fnExactAngleOfSpec)

/-- 'laws.FnExactFourSteps', WHERE WHAT IT READS IS OF BULK AT MOST 1048576: true; the input reads as it did. -/
def fnExactFourStepsUptoRow : OpenClaim := { program := "ytbagaicbochmnaa", sum := "a3ebb866c06ba3fe5f13cd84fe5637cbad229b03de3725cc4c6f7fa21d507c0f", func := "loop.example/g00049/laws.FnExactFourSteps", spec := "fnExactFourSteps", inPlace := ["math.sqrt"], apart := false, narrowed := true }
def FnExactFourStepsUptoSaid : Prop := fnExactFourStepsUptoRow.holds Try.pinned (OpenSpec.upto fnExactFourStepsSpec)

/-- 'laws.FnExactVisibilityOf', WHERE WHAT IT READS IS OF BULK AT MOST 1048576: true; the input reads as it did. -/
def fnExactVisibilityOfUptoRow : OpenClaim := { program := "ytbagaicbochmnaa", sum := "a3ebb866c06ba3fe5f13cd84fe5637cbad229b03de3725cc4c6f7fa21d507c0f", func := "loop.example/g00049/laws.FnExactVisibilityOf", spec := "fnExactVisibilityOf", apart := false, narrowed := true }
def FnExactVisibilityOfUptoSaid : Prop := fnExactVisibilityOfUptoRow.holds Try.pinned (OpenSpec.upto fnExactVisibilityOfSpec)

end Rows
end Go.Proofs.Ytbagaicbochmnaa
